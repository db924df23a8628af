import PyProof.Rows.All
import Wide.All
import OpenK.AllK
import Wide.FinOn
import HandS.ForExc
import HandS.ForMost
import HandS.TupAny
import HandS.IsInst
import HandS.Codes
import HandS.FStr
import HandS.Zip
import HandS.More
import HandS.StrMore
import HandS.Text
import HandS.HotCalls
import HandS.ExcIs
import HandS.ExcCtx
import HandS.More
import HandS.Text
import HandS.ExcInitHot
import HandS.ExcField
import KE.KExcIs
import KE.KxIndex
import PySem.Challenge.RW_neverleaves_k08_places_of_errors
set_option Elab.async false
set_option linter.all false
set_option maxRecDepth 100000

namespace NL
open PySem PySem.Spec PyProof.Rows L2
def topS (i : Nat) : Stmt := PySem.Challenge.pw_neverleaves_k08_places_of_errors.main.body.getD i (.Pass ⟨0, 0, 0, 0⟩)
abbrev srun_end : Stmt := topS 17
abbrev Nrun_end : List Str := ["text", "at", "characters"]
abbrev Prun_end : List Str := ["text", "at", "characters"]
theorem scrun_end : FnScope Nrun_end Prun_end (defScope srun_end) := ⟨rfl, rfl, rfl, by decide +kernel, rfl, by decide +kernel, by decide +kernel⟩
abbrev sis_name : Stmt := topS 18
abbrev Nis_name : List Str := ["word"]
abbrev Pis_name : List Str := ["word"]
theorem scis_name : FnScope Nis_name Pis_name (defScope sis_name) := ⟨rfl, rfl, rfl, by decide +kernel, rfl, by decide +kernel, by decide +kernel⟩
abbrev sis_integer : Stmt := topS 19
abbrev Nis_integer : List Str := ["word", "digits"]
abbrev Pis_integer : List Str := ["word"]
theorem scis_integer : FnScope Nis_integer Pis_integer (defScope sis_integer) := ⟨rfl, rfl, rfl, by decide +kernel, rfl, by decide +kernel, by decide +kernel⟩
abbrev stokens_of : Stmt := topS 22
abbrev Ntokens_of : List Str := ["text", "tokens", "at", "end"]
abbrev Ptokens_of : List Str := ["text"]
theorem sctokens_of : FnScope Ntokens_of Ptokens_of (defScope stokens_of) := ⟨rfl, rfl, rfl, by decide +kernel, rfl, by decide +kernel, by decide +kernel⟩
abbrev s_piece_end : Stmt := topS 23
abbrev N_piece_end : List Str := ["text", "at"]
abbrev P_piece_end : List Str := ["text", "at"]
theorem sc_piece_end : FnScope N_piece_end P_piece_end (defScope s_piece_end) := ⟨rfl, rfl, rfl, by decide +kernel, rfl, by decide +kernel, by decide +kernel⟩
abbrev sread_whole : Stmt := topS 27
abbrev Nread_whole : List Str := ["text", "kind", "tokens", "whole", "at"]
abbrev Pread_whole : List Str := ["text", "kind"]
theorem scread_whole : FnScope Nread_whole Pread_whole (defScope sread_whole) := ⟨rfl, rfl, rfl, by decide +kernel, rfl, by decide +kernel, by decide +kernel⟩
abbrev s_pass_token : Stmt := topS 28
abbrev N_pass_token : List Str := ["tokens", "at", "due", "word", "column"]
abbrev P_pass_token : List Str := ["tokens", "at", "due"]
theorem sc_pass_token : FnScope N_pass_token P_pass_token (defScope s_pass_token) := ⟨rfl, rfl, rfl, by decide +kernel, rfl, by decide +kernel, by decide +kernel⟩
abbrev s_read_part : Stmt := topS 29
abbrev N_read_part : List Str := ["tokens", "at", "kind", "depth"]
abbrev P_read_part : List Str := ["tokens", "at", "kind", "depth"]
theorem sc_read_part : FnScope N_read_part P_read_part (defScope s_read_part) := ⟨rfl, rfl, rfl, by decide +kernel, rfl, by decide +kernel, by decide +kernel⟩
abbrev s_read_divisor : Stmt := topS 30
abbrev N_read_divisor : List Str := ["tokens", "at", "word", "column"]
abbrev P_read_divisor : List Str := ["tokens", "at"]
theorem sc_read_divisor : FnScope N_read_divisor P_read_divisor (defScope s_read_divisor) := ⟨rfl, rfl, rfl, by decide +kernel, rfl, by decide +kernel, by decide +kernel⟩
abbrev s_read_expression : Stmt := topS 31
abbrev N_read_expression : List Str := ["tokens", "at", "depth", "word", "column", "parts", "end"]
abbrev P_read_expression : List Str := ["tokens", "at", "depth"]
theorem sc_read_expression : FnScope N_read_expression P_read_expression (defScope s_read_expression) := ⟨rfl, rfl, rfl, by decide +kernel, rfl, by decide +kernel, by decide +kernel⟩
abbrev s_read_condition : Stmt := topS 32
abbrev N_read_condition : List Str := ["tokens", "at", "depth", "word", "column", "conditions", "end", "parts"]
abbrev P_read_condition : List Str := ["tokens", "at", "depth"]
theorem sc_read_condition : FnScope N_read_condition P_read_condition (defScope s_read_condition) := ⟨rfl, rfl, rfl, by decide +kernel, rfl, by decide +kernel, by decide +kernel⟩
abbrev s_read_parts : Stmt := topS 33
abbrev N_read_parts : List Str := ["tokens", "at", "kinds", "depth", "parts", "before", "kind", "part"]
abbrev P_read_parts : List Str := ["tokens", "at", "kinds", "depth"]
theorem sc_read_parts : FnScope N_read_parts P_read_parts (defScope s_read_parts) := ⟨rfl, rfl, rfl, by decide +kernel, rfl, by decide +kernel, by decide +kernel⟩
abbrev s_read_conditions : Stmt := topS 34
abbrev N_read_conditions : List Str := ["tokens", "at", "depth", "first", "conditions", "condition"]
abbrev P_read_conditions : List Str := ["tokens", "at", "depth"]
theorem sc_read_conditions : FnScope N_read_conditions P_read_conditions (defScope s_read_conditions) := ⟨rfl, rfl, rfl, by decide +kernel, rfl, by decide +kernel, by decide +kernel⟩
abbrev sread_expression : Stmt := topS 36
abbrev Nread_expression : List Str := ["text"]
abbrev Pread_expression : List Str := ["text"]
theorem scread_expression : FnScope Nread_expression Pread_expression (defScope sread_expression) := ⟨rfl, rfl, rfl, by decide +kernel, rfl, by decide +kernel, by decide +kernel⟩
abbrev sread_condition : Stmt := topS 37
abbrev Nread_condition : List Str := ["text"]
abbrev Pread_condition : List Str := ["text"]
theorem scread_condition : FnScope Nread_condition Pread_condition (defScope sread_condition) := ⟨rfl, rfl, rfl, by decide +kernel, rfl, by decide +kernel, by decide +kernel⟩
abbrev s_law_draws : Stmt := topS 39
abbrev N_law_draws : List Str := ["script", "many", "cells", "cell", "rest", "draws", "k", "at", "once"]
abbrev P_law_draws : List Str := ["script", "many"]
theorem sc_law_draws : FnScope N_law_draws P_law_draws (defScope s_law_draws) := ⟨rfl, rfl, rfl, by decide +kernel, rfl, by decide +kernel, by decide +kernel⟩
abbrev s_law_take : Stmt := topS 40
abbrev N_law_take : List Str := ["draws", "many"]
abbrev P_law_take : List Str := ["draws", "many"]
theorem sc_law_take : FnScope N_law_take P_law_take (defScope s_law_take) := ⟨rfl, rfl, rfl, by decide +kernel, rfl, by decide +kernel, by decide +kernel⟩
abbrev s_law_cell : Stmt := topS 41
abbrev N_law_cell : List Str := ["script", "draws"]
abbrev P_law_cell : List Str := ["script", "draws"]
theorem sc_law_cell : FnScope N_law_cell P_law_cell (defScope s_law_cell) := ⟨rfl, rfl, rfl, by decide +kernel, rfl, by decide +kernel, by decide +kernel⟩
abbrev s_law_word : Stmt := topS 42
abbrev N_law_word : List Str := ["number", "word", "k"]
abbrev P_law_word : List Str := ["number"]
theorem sc_law_word : FnScope N_law_word P_law_word (defScope s_law_word) := ⟨rfl, rfl, rfl, by decide +kernel, rfl, by decide +kernel, by decide +kernel⟩
abbrev s_law_some_word : Stmt := topS 43
abbrev N_law_some_word : List Str := ["draws", "number", "great"]
abbrev P_law_some_word : List Str := ["draws"]
theorem sc_law_some_word : FnScope N_law_some_word P_law_some_word (defScope s_law_some_word) := ⟨rfl, rfl, rfl, by decide +kernel, rfl, by decide +kernel, by decide +kernel⟩
abbrev s_law_reserved : Stmt := topS 44
abbrev N_law_reserved : List Str := ["first"]
abbrev P_law_reserved : List Str := []
theorem sc_law_reserved : FnScope N_law_reserved P_law_reserved (defScope s_law_reserved) := ⟨rfl, rfl, rfl, by decide +kernel, rfl, by decide +kernel, by decide +kernel⟩
abbrev s_law_name : Stmt := topS 45
abbrev N_law_name : List Str := ["draws", "known", "name", "near"]
abbrev P_law_name : List Str := ["draws"]
theorem sc_law_name : FnScope N_law_name P_law_name (defScope s_law_name) := ⟨rfl, rfl, rfl, by decide +kernel, rfl, by decide +kernel, by decide +kernel⟩
abbrev s_law_names : Stmt := topS 46
abbrev N_law_names : List Str := ["draws", "many", "names", "k", "name"]
abbrev P_law_names : List Str := ["draws", "many"]
theorem sc_law_names : FnScope N_law_names P_law_names (defScope s_law_names) := ⟨rfl, rfl, rfl, by decide +kernel, rfl, by decide +kernel, by decide +kernel⟩
abbrev s_law_is_integer : Stmt := topS 47
abbrev N_law_is_integer : List Str := ["value"]
abbrev P_law_is_integer : List Str := ["value"]
theorem sc_law_is_integer : FnScope N_law_is_integer P_law_is_integer (defScope s_law_is_integer) := ⟨rfl, rfl, rfl, by decide +kernel, rfl, by decide +kernel, by decide +kernel⟩
abbrev s_law_number : Stmt := topS 48
abbrev N_law_number : List Str := ["draws", "cell"]
abbrev P_law_number : List Str := ["draws", "cell"]
theorem sc_law_number : FnScope N_law_number P_law_number (defScope s_law_number) := ⟨rfl, rfl, rfl, by decide +kernel, rfl, by decide +kernel, by decide +kernel⟩
abbrev s_law_leaf : Stmt := topS 49
abbrev N_law_leaf : List Str := ["draws", "names", "cell"]
abbrev P_law_leaf : List Str := ["draws", "names", "cell"]
theorem sc_law_leaf : FnScope N_law_leaf P_law_leaf (defScope s_law_leaf) := ⟨rfl, rfl, rfl, by decide +kernel, rfl, by decide +kernel, by decide +kernel⟩
abbrev s_law_expression : Stmt := topS 50
abbrev N_law_expression : List Str := ["draws", "names", "cell", "depth", "kind", "one", "two"]
abbrev P_law_expression : List Str := ["draws", "names", "cell", "depth"]
theorem sc_law_expression : FnScope N_law_expression P_law_expression (defScope s_law_expression) := ⟨rfl, rfl, rfl, by decide +kernel, rfl, by decide +kernel, by decide +kernel⟩
abbrev s_law_test : Stmt := topS 51
abbrev N_law_test : List Str := ["draws", "names", "cell", "depth", "kind", "one", "many", "k"]
abbrev P_law_test : List Str := ["draws", "names", "cell", "depth"]
theorem sc_law_test : FnScope N_law_test P_law_test (defScope s_law_test) := ⟨rfl, rfl, rfl, by decide +kernel, rfl, by decide +kernel, by decide +kernel⟩
abbrev s_law_inner : Stmt := topS 52
abbrev N_law_inner : List Str := ["item"]
abbrev P_law_inner : List Str := ["item"]
theorem sc_law_inner : FnScope N_law_inner P_law_inner (defScope s_law_inner) := ⟨rfl, rfl, rfl, by decide +kernel, rfl, by decide +kernel, by decide +kernel⟩
abbrev s_law_depth : Stmt := topS 53
abbrev N_law_depth : List Str := ["item", "part"]
abbrev P_law_depth : List Str := ["item"]
theorem sc_law_depth : FnScope N_law_depth P_law_depth (defScope s_law_depth) := ⟨rfl, rfl, rfl, by decide +kernel, rfl, by decide +kernel, by decide +kernel⟩
abbrev s_law_is_test : Stmt := topS 54
abbrev N_law_is_test : List Str := ["item"]
abbrev P_law_is_test : List Str := ["item"]
theorem sc_law_is_test : FnScope N_law_is_test P_law_is_test (defScope s_law_is_test) := ⟨rfl, rfl, rfl, by decide +kernel, rfl, by decide +kernel, by decide +kernel⟩
abbrev s_law_around : Stmt := topS 55
abbrev N_law_around : List Str := ["item", "side", "many", "turn", "k", "both", "parts", "found"]
abbrev P_law_around : List Str := ["item", "side", "many", "turn"]
theorem sc_law_around : FnScope N_law_around P_law_around (defScope s_law_around) := ⟨rfl, rfl, rfl, by decide +kernel, rfl, by decide +kernel, by decide +kernel⟩
abbrev s_law_many : Stmt := topS 56
abbrev N_law_many : List Str := ["draws", "names", "cell", "parts", "k", "one"]
abbrev P_law_many : List Str := ["draws", "names", "cell"]
theorem sc_law_many : FnScope N_law_many P_law_many (defScope s_law_many) := ⟨rfl, rfl, rfl, by decide +kernel, rfl, by decide +kernel, by decide +kernel⟩
abbrev s_law_great : Stmt := topS 57
abbrev N_law_great : List Str := ["draws", "cell", "great"]
abbrev P_law_great : List Str := ["draws", "cell"]
theorem sc_law_great : FnScope N_law_great P_law_great (defScope s_law_great) := ⟨rfl, rfl, rfl, by decide +kernel, rfl, by decide +kernel, by decide +kernel⟩
abbrev s_law_tokens : Stmt := topS 58
abbrev N_law_tokens : List Str := ["item", "found", "parts", "k"]
abbrev P_law_tokens : List Str := ["item"]
theorem sc_law_tokens : FnScope N_law_tokens P_law_tokens (defScope s_law_tokens) := ⟨rfl, rfl, rfl, by decide +kernel, rfl, by decide +kernel, by decide +kernel⟩
abbrev s_law_text_item : Stmt := topS 60
abbrev N_law_text_item : List Str := ["draws", "names", "cell", "shape", "item"]
abbrev P_law_text_item : List Str := ["draws", "names", "cell"]
theorem sc_law_text_item : FnScope N_law_text_item P_law_text_item (defScope s_law_text_item) := ⟨rfl, rfl, rfl, by decide +kernel, rfl, by decide +kernel, by decide +kernel⟩
abbrev s_law_is_joined : Stmt := topS 61
abbrev N_law_is_joined : List Str := ["last", "first"]
abbrev P_law_is_joined : List Str := ["last", "first"]
theorem sc_law_is_joined : FnScope N_law_is_joined P_law_is_joined (defScope s_law_is_joined) := ⟨rfl, rfl, rfl, by decide +kernel, rfl, by decide +kernel, by decide +kernel⟩
abbrev s_law_spaced : Stmt := topS 62
abbrev N_law_spaced : List Str := ["tokens", "pattern", "starts", "text", "rest", "token"]
abbrev P_law_spaced : List Str := ["tokens", "pattern", "starts"]
theorem sc_law_spaced : FnScope N_law_spaced P_law_spaced (defScope s_law_spaced) := ⟨rfl, rfl, rfl, by decide +kernel, rfl, by decide +kernel, by decide +kernel⟩
abbrev s_law_pattern : Stmt := topS 63
abbrev N_law_pattern : List Str := ["draws", "cell"]
abbrev P_law_pattern : List Str := ["draws", "cell"]
theorem sc_law_pattern : FnScope N_law_pattern P_law_pattern (defScope s_law_pattern) := ⟨rfl, rfl, rfl, by decide +kernel, rfl, by decide +kernel, by decide +kernel⟩
abbrev s_law_put : Stmt := topS 64
abbrev N_law_put : List Str := ["places", "item", "depth", "more", "code", "parts", "open_end", "k"]
abbrev P_law_put : List Str := ["places", "item", "depth", "more"]
theorem sc_law_put : FnScope N_law_put P_law_put (defScope s_law_put) := ⟨rfl, rfl, rfl, by decide +kernel, rfl, by decide +kernel, by decide +kernel⟩
abbrev s_law_fits : Stmt := topS 65
abbrev N_law_fits : List Str := ["token", "code", "digits"]
abbrev P_law_fits : List Str := ["token", "code"]
theorem sc_law_fits : FnScope N_law_fits P_law_fits (defScope s_law_fits) := ⟨rfl, rfl, rfl, by decide +kernel, rfl, by decide +kernel, by decide +kernel⟩
abbrev s_law_bad_token : Stmt := topS 66
abbrev N_law_bad_token : List Str := ["draws", "cell", "chars", "digits", "great", "found", "k"]
abbrev P_law_bad_token : List Str := ["draws", "cell"]
theorem sc_law_bad_token : FnScope N_law_bad_token P_law_bad_token (defScope s_law_bad_token) := ⟨rfl, rfl, rfl, by decide +kernel, rfl, by decide +kernel, by decide +kernel⟩
abbrev s_law_misfit : Stmt := topS 67
abbrev N_law_misfit : List Str := ["draws", "code", "names", "cell", "known", "found", "token"]
abbrev P_law_misfit : List Str := ["draws", "code", "names", "cell"]
theorem sc_law_misfit : FnScope N_law_misfit P_law_misfit (defScope s_law_misfit) := ⟨rfl, rfl, rfl, by decide +kernel, rfl, by decide +kernel, by decide +kernel⟩
abbrev s_law_error_name : Stmt := topS 68
abbrev N_law_error_name : List Str := ["e", "kinds", "names", "found", "k"]
abbrev P_law_error_name : List Str := ["e"]
theorem sc_law_error_name : FnScope N_law_error_name P_law_error_name (defScope s_law_error_name) := ⟨rfl, rfl, rfl, by decide +kernel, rfl, by decide +kernel, by decide +kernel⟩
abbrev s_law_gap : Stmt := topS 69
abbrev N_law_gap : List Str := ["text", "token"]
abbrev P_law_gap : List Str := ["text", "token"]
theorem sc_law_gap : FnScope N_law_gap P_law_gap (defScope s_law_gap) := ⟨rfl, rfl, rfl, by decide +kernel, rfl, by decide +kernel, by decide +kernel⟩
abbrev s_law_refused : Stmt := topS 70
abbrev N_law_refused : List Str := ["is_test", "text", "column", "e"]
abbrev P_law_refused : List Str := ["is_test", "text", "column"]
theorem sc_law_refused : FnScope N_law_refused P_law_refused (defScope s_law_refused) := ⟨rfl, rfl, rfl, by decide +kernel, rfl, by decide +kernel, by decide +kernel⟩
abbrev slaw : Stmt := topS 71
abbrev Nlaw : List Str := ["script", "draws", "cell", "names", "item", "more", "places", "first", "k", "at", "ns", "tokens", "place", "starts", "text", "due", "token"]
abbrev Plaw : List Str := ["script"]
theorem sclaw : FnScope Nlaw Plaw (defScope slaw) := ⟨rfl, rfl, rfl, by decide +kernel, rfl, by decide +kernel, by decide +kernel⟩
def KT (K : PySem.W.Frag) (a : Addr) (ys : List V) : Prop := ∃ o its n, List.lookup a K = some o ∧ o.cls = .type "tuple" ∧ o.data = .seq its n ∧ its.size ≤ sizeLine ∧ L2.Vals ys its.toList
theorem kt_mk {K : PySem.W.Frag} {a : Addr} {ys : List V} {o : Obj} {its : Array Value} {n : Nat} (h1 : List.lookup a K = some o) (h2 : o.cls = .type "tuple") (h3 : o.data = .seq its n) (h4 : its.size ≤ sizeLine) (h5 : L2.Vals ys its.toList) : KT K a ys := ⟨o, its, n, h1, h2, h3, h4, h5⟩
def rows_EXPRESSION_PARTS : List (Str × List Str) := [("add", ["expression", "expression"]), ("sub", ["expression", "expression"]), ("mul", ["expression", "expression"]), ("div", ["expression", "divisor"]), ("mod", ["expression", "divisor"]), ("min", ["expression", "expression"]), ("max", ["expression", "expression"]), ("abs", ["expression"]), ("if", ["condition", "expression", "expression"])]
def rows_CONDITION_PARTS : List (Str × List Str) := [("less", ["expression", "expression"]), ("equal", ["expression", "expression"]), ("not", ["condition"])]
def kstr : Value → Str | .str x _ => x | _ => ""
structure Dic (K : PySem.W.Frag) (w : World) (mg : Str → Option Value) where
  c_EXPRESSION_PARTS : Addr
  g_EXPRESSION_PARTS : mg "EXPRESSION_PARTS" = some (.ref c_EXPRESSION_PARTS)
  e_EXPRESSION_PARTS : Array DictEntry
  n_EXPRESSION_PARTS : Nat
  D_EXPRESSION_PARTS : KDict K w c_EXPRESSION_PARTS e_EXPRESSION_PARTS n_EXPRESSION_PARTS
  y_EXPRESSION_PARTS : e_EXPRESSION_PARTS.toList.map (fun e => kstr e.key) = rows_EXPRESSION_PARTS.map (·.1)
  q_EXPRESSION_PARTS : ∀ x ks, (x, ks) ∈ rows_EXPRESSION_PARTS → ∃ t, PySem.W.nsIn K c_EXPRESSION_PARTS x = some (some (.ref t)) ∧ KT K t (ks.map V.str)
  c_CONDITION_PARTS : Addr
  g_CONDITION_PARTS : mg "CONDITION_PARTS" = some (.ref c_CONDITION_PARTS)
  e_CONDITION_PARTS : Array DictEntry
  n_CONDITION_PARTS : Nat
  D_CONDITION_PARTS : KDict K w c_CONDITION_PARTS e_CONDITION_PARTS n_CONDITION_PARTS
  y_CONDITION_PARTS : e_CONDITION_PARTS.toList.map (fun e => kstr e.key) = rows_CONDITION_PARTS.map (·.1)
  q_CONDITION_PARTS : ∀ x ks, (x, ks) ∈ rows_CONDITION_PARTS → ∃ t, PySem.W.nsIn K c_CONDITION_PARTS x = some (some (.ref t)) ∧ KT K t (ks.map V.str)
structure Txt (K : PySem.W.Frag) (mg : Str → Option Value) where
  z_ValueError : mg "ValueError" = none
  z_abs : mg "abs" = none
  z_bool : mg "bool" = none
  z_int : mg "int" = none
  z_isinstance : mg "isinstance" = none
  z_len : mg "len" = none
  z_list : mg "list" = none
  z_max : mg "max" = none
  z_range : mg "range" = none
  z_str : mg "str" = none
  z_tuple : mg "tuple" = none
  u_LETTERS : Value
  g_LETTERS : mg "LETTERS" = some u_LETTERS
  r_LETTERS : L2.RelV (.str "abcdefghijklmnopqrstuvwxyz") u_LETTERS
  u_DIGITS : Value
  g_DIGITS : mg "DIGITS" = some u_DIGITS
  r_DIGITS : L2.RelV (.str "0123456789") u_DIGITS
  u_MOST_DIGITS : Value
  g_MOST_DIGITS : mg "MOST_DIGITS" = some u_MOST_DIGITS
  r_MOST_DIGITS : L2.RelV (.int 60) u_MOST_DIGITS
  c_WORDS : Addr
  g_WORDS : mg "WORDS" = some (.ref c_WORDS)
  k_WORDS : KT K c_WORDS [(.str "true"), (.str "false"), (.str "add"), (.str "sub"), (.str "mul"), (.str "div"), (.str "mod"), (.str "min"), (.str "max"), (.str "abs"), (.str "if"), (.str "less"), (.str "equal"), (.str "not"), (.str "all"), (.str "any")]
  u_MOST_DEPTH : Value
  g_MOST_DEPTH : mg "MOST_DEPTH" = some u_MOST_DEPTH
  r_MOST_DEPTH : L2.RelV (.int 12) u_MOST_DEPTH
  arun_end : Addr
  drun_end : FuncData
  Frun_end : Fun K "run_end" "run_end" srun_end arun_end drun_end
  mrun_end : mg "run_end" = some (.ref arun_end)
  ais_name : Addr
  dis_name : FuncData
  Fis_name : Fun K "is_name" "is_name" sis_name ais_name dis_name
  mis_name : mg "is_name" = some (.ref ais_name)
  ais_integer : Addr
  dis_integer : FuncData
  Fis_integer : Fun K "is_integer" "is_integer" sis_integer ais_integer dis_integer
  mis_integer : mg "is_integer" = some (.ref ais_integer)
  atokens_of : Addr
  dtokens_of : FuncData
  Ftokens_of : Fun K "tokens_of" "tokens_of" stokens_of atokens_of dtokens_of
  mtokens_of : mg "tokens_of" = some (.ref atokens_of)
  a_piece_end : Addr
  d_piece_end : FuncData
  F_piece_end : Fun K "_piece_end" "_piece_end" s_piece_end a_piece_end d_piece_end
  m_piece_end : mg "_piece_end" = some (.ref a_piece_end)
  aread_whole : Addr
  dread_whole : FuncData
  Fread_whole : Fun K "read_whole" "read_whole" sread_whole aread_whole dread_whole
  mread_whole : mg "read_whole" = some (.ref aread_whole)
  a_pass_token : Addr
  d_pass_token : FuncData
  F_pass_token : Fun K "_pass_token" "_pass_token" s_pass_token a_pass_token d_pass_token
  m_pass_token : mg "_pass_token" = some (.ref a_pass_token)
  a_read_part : Addr
  d_read_part : FuncData
  F_read_part : Fun K "_read_part" "_read_part" s_read_part a_read_part d_read_part
  m_read_part : mg "_read_part" = some (.ref a_read_part)
  a_read_divisor : Addr
  d_read_divisor : FuncData
  F_read_divisor : Fun K "_read_divisor" "_read_divisor" s_read_divisor a_read_divisor d_read_divisor
  m_read_divisor : mg "_read_divisor" = some (.ref a_read_divisor)
  a_read_expression : Addr
  d_read_expression : FuncData
  F_read_expression : Fun K "_read_expression" "_read_expression" s_read_expression a_read_expression d_read_expression
  m_read_expression : mg "_read_expression" = some (.ref a_read_expression)
  a_read_condition : Addr
  d_read_condition : FuncData
  F_read_condition : Fun K "_read_condition" "_read_condition" s_read_condition a_read_condition d_read_condition
  m_read_condition : mg "_read_condition" = some (.ref a_read_condition)
  a_read_parts : Addr
  d_read_parts : FuncData
  F_read_parts : Fun K "_read_parts" "_read_parts" s_read_parts a_read_parts d_read_parts
  m_read_parts : mg "_read_parts" = some (.ref a_read_parts)
  a_read_conditions : Addr
  d_read_conditions : FuncData
  F_read_conditions : Fun K "_read_conditions" "_read_conditions" s_read_conditions a_read_conditions d_read_conditions
  m_read_conditions : mg "_read_conditions" = some (.ref a_read_conditions)
  aread_expression : Addr
  dread_expression : FuncData
  Fread_expression : Fun K "read_expression" "read_expression" sread_expression aread_expression dread_expression
  mread_expression : mg "read_expression" = some (.ref aread_expression)
  aread_condition : Addr
  dread_condition : FuncData
  Fread_condition : Fun K "read_condition" "read_condition" sread_condition aread_condition dread_condition
  mread_condition : mg "read_condition" = some (.ref aread_condition)
  a_law_draws : Addr
  d_law_draws : FuncData
  F_law_draws : Fun K "_law_draws" "_law_draws" s_law_draws a_law_draws d_law_draws
  m_law_draws : mg "_law_draws" = some (.ref a_law_draws)
  a_law_take : Addr
  d_law_take : FuncData
  F_law_take : Fun K "_law_take" "_law_take" s_law_take a_law_take d_law_take
  m_law_take : mg "_law_take" = some (.ref a_law_take)
  a_law_cell : Addr
  d_law_cell : FuncData
  F_law_cell : Fun K "_law_cell" "_law_cell" s_law_cell a_law_cell d_law_cell
  m_law_cell : mg "_law_cell" = some (.ref a_law_cell)
  a_law_word : Addr
  d_law_word : FuncData
  F_law_word : Fun K "_law_word" "_law_word" s_law_word a_law_word d_law_word
  m_law_word : mg "_law_word" = some (.ref a_law_word)
  a_law_some_word : Addr
  d_law_some_word : FuncData
  F_law_some_word : Fun K "_law_some_word" "_law_some_word" s_law_some_word a_law_some_word d_law_some_word
  m_law_some_word : mg "_law_some_word" = some (.ref a_law_some_word)
  a_law_reserved : Addr
  d_law_reserved : FuncData
  F_law_reserved : Fun K "_law_reserved" "_law_reserved" s_law_reserved a_law_reserved d_law_reserved
  m_law_reserved : mg "_law_reserved" = some (.ref a_law_reserved)
  a_law_name : Addr
  d_law_name : FuncData
  F_law_name : Fun K "_law_name" "_law_name" s_law_name a_law_name d_law_name
  m_law_name : mg "_law_name" = some (.ref a_law_name)
  a_law_names : Addr
  d_law_names : FuncData
  F_law_names : Fun K "_law_names" "_law_names" s_law_names a_law_names d_law_names
  m_law_names : mg "_law_names" = some (.ref a_law_names)
  a_law_is_integer : Addr
  d_law_is_integer : FuncData
  F_law_is_integer : Fun K "_law_is_integer" "_law_is_integer" s_law_is_integer a_law_is_integer d_law_is_integer
  m_law_is_integer : mg "_law_is_integer" = some (.ref a_law_is_integer)
  a_law_number : Addr
  d_law_number : FuncData
  F_law_number : Fun K "_law_number" "_law_number" s_law_number a_law_number d_law_number
  m_law_number : mg "_law_number" = some (.ref a_law_number)
  a_law_leaf : Addr
  d_law_leaf : FuncData
  F_law_leaf : Fun K "_law_leaf" "_law_leaf" s_law_leaf a_law_leaf d_law_leaf
  m_law_leaf : mg "_law_leaf" = some (.ref a_law_leaf)
  a_law_expression : Addr
  d_law_expression : FuncData
  F_law_expression : Fun K "_law_expression" "_law_expression" s_law_expression a_law_expression d_law_expression
  m_law_expression : mg "_law_expression" = some (.ref a_law_expression)
  a_law_test : Addr
  d_law_test : FuncData
  F_law_test : Fun K "_law_test" "_law_test" s_law_test a_law_test d_law_test
  m_law_test : mg "_law_test" = some (.ref a_law_test)
  a_law_inner : Addr
  d_law_inner : FuncData
  F_law_inner : Fun K "_law_inner" "_law_inner" s_law_inner a_law_inner d_law_inner
  m_law_inner : mg "_law_inner" = some (.ref a_law_inner)
  a_law_depth : Addr
  d_law_depth : FuncData
  F_law_depth : Fun K "_law_depth" "_law_depth" s_law_depth a_law_depth d_law_depth
  m_law_depth : mg "_law_depth" = some (.ref a_law_depth)
  a_law_is_test : Addr
  d_law_is_test : FuncData
  F_law_is_test : Fun K "_law_is_test" "_law_is_test" s_law_is_test a_law_is_test d_law_is_test
  m_law_is_test : mg "_law_is_test" = some (.ref a_law_is_test)
  a_law_around : Addr
  d_law_around : FuncData
  F_law_around : Fun K "_law_around" "_law_around" s_law_around a_law_around d_law_around
  m_law_around : mg "_law_around" = some (.ref a_law_around)
  a_law_many : Addr
  d_law_many : FuncData
  F_law_many : Fun K "_law_many" "_law_many" s_law_many a_law_many d_law_many
  m_law_many : mg "_law_many" = some (.ref a_law_many)
  a_law_great : Addr
  d_law_great : FuncData
  F_law_great : Fun K "_law_great" "_law_great" s_law_great a_law_great d_law_great
  m_law_great : mg "_law_great" = some (.ref a_law_great)
  a_law_tokens : Addr
  d_law_tokens : FuncData
  F_law_tokens : Fun K "_law_tokens" "_law_tokens" s_law_tokens a_law_tokens d_law_tokens
  m_law_tokens : mg "_law_tokens" = some (.ref a_law_tokens)
  a_law_text_item : Addr
  d_law_text_item : FuncData
  F_law_text_item : Fun K "_law_text_item" "_law_text_item" s_law_text_item a_law_text_item d_law_text_item
  m_law_text_item : mg "_law_text_item" = some (.ref a_law_text_item)
  a_law_is_joined : Addr
  d_law_is_joined : FuncData
  F_law_is_joined : Fun K "_law_is_joined" "_law_is_joined" s_law_is_joined a_law_is_joined d_law_is_joined
  m_law_is_joined : mg "_law_is_joined" = some (.ref a_law_is_joined)
  a_law_spaced : Addr
  d_law_spaced : FuncData
  F_law_spaced : Fun K "_law_spaced" "_law_spaced" s_law_spaced a_law_spaced d_law_spaced
  m_law_spaced : mg "_law_spaced" = some (.ref a_law_spaced)
  a_law_pattern : Addr
  d_law_pattern : FuncData
  F_law_pattern : Fun K "_law_pattern" "_law_pattern" s_law_pattern a_law_pattern d_law_pattern
  m_law_pattern : mg "_law_pattern" = some (.ref a_law_pattern)
  a_law_put : Addr
  d_law_put : FuncData
  F_law_put : Fun K "_law_put" "_law_put" s_law_put a_law_put d_law_put
  m_law_put : mg "_law_put" = some (.ref a_law_put)
  a_law_fits : Addr
  d_law_fits : FuncData
  F_law_fits : Fun K "_law_fits" "_law_fits" s_law_fits a_law_fits d_law_fits
  m_law_fits : mg "_law_fits" = some (.ref a_law_fits)
  a_law_bad_token : Addr
  d_law_bad_token : FuncData
  F_law_bad_token : Fun K "_law_bad_token" "_law_bad_token" s_law_bad_token a_law_bad_token d_law_bad_token
  m_law_bad_token : mg "_law_bad_token" = some (.ref a_law_bad_token)
  a_law_misfit : Addr
  d_law_misfit : FuncData
  F_law_misfit : Fun K "_law_misfit" "_law_misfit" s_law_misfit a_law_misfit d_law_misfit
  m_law_misfit : mg "_law_misfit" = some (.ref a_law_misfit)
  a_law_error_name : Addr
  d_law_error_name : FuncData
  F_law_error_name : Fun K "_law_error_name" "_law_error_name" s_law_error_name a_law_error_name d_law_error_name
  m_law_error_name : mg "_law_error_name" = some (.ref a_law_error_name)
  a_law_gap : Addr
  d_law_gap : FuncData
  F_law_gap : Fun K "_law_gap" "_law_gap" s_law_gap a_law_gap d_law_gap
  m_law_gap : mg "_law_gap" = some (.ref a_law_gap)
  a_law_refused : Addr
  d_law_refused : FuncData
  F_law_refused : Fun K "_law_refused" "_law_refused" s_law_refused a_law_refused d_law_refused
  m_law_refused : mg "_law_refused" = some (.ref a_law_refused)
  alaw : Addr
  dlaw : FuncData
  Flaw : Fun K "law" "law" slaw alaw dlaw
  mlaw : mg "law" = some (.ref alaw)
def clsBody (s : Stmt) : List Stmt := match s with | .ClassDef _ _ _ b _ _ _ _ _ _ _ => b | _ => []
abbrev sI_BadText : Stmt := (clsBody (topS 6)).getD 0 (.Pass ⟨0, 0, 0, 0⟩)
abbrev PI_BadText : List Str := ["self", "line", "column"]
theorem scI_BadText : FnScope PI_BadText PI_BadText (defScope sI_BadText) := ⟨rfl, rfl, rfl, by decide +kernel, rfl, by decide +kernel, by decide +kernel⟩
structure Exs (K : PySem.W.Frag) (mg : Str → Option Value) where
  c_ControlError : Addr
  g_ControlError : mg "ControlError" = some (.ref c_ControlError)
  c_InvalidExpression : Addr
  g_InvalidExpression : mg "InvalidExpression" = some (.ref c_InvalidExpression)
  c_InvalidPlant : Addr
  g_InvalidPlant : mg "InvalidPlant" = some (.ref c_InvalidPlant)
  c_InvalidArena : Addr
  g_InvalidArena : mg "InvalidArena" = some (.ref c_InvalidArena)
  c_InvalidGoal : Addr
  g_InvalidGoal : mg "InvalidGoal" = some (.ref c_InvalidGoal)
  c_BadText : Addr
  g_BadText : mg "BadText" = some (.ref c_BadText)
  c_NoPosition : Addr
  g_NoPosition : mg "NoPosition" = some (.ref c_NoPosition)
  c_Held : Addr
  g_Held : mg "Held" = some (.ref c_Held)
  c_NotHeld : Addr
  g_NotHeld : mg "NotHeld" = some (.ref c_NotHeld)
  c_BadReply : Addr
  g_BadReply : mg "BadReply" = some (.ref c_BadReply)
  c_Lost : Addr
  g_Lost : mg "Lost" = some (.ref c_Lost)
  oe : OexC K c_BadText
  xf : XfC K c_BadText
  n_line : PySem.W.findIn K (.ref c_BadText) "line" = some none
  n_column : PySem.W.findIn K (.ref c_BadText) "column" = some none
  aI : Addr
  dI : FuncData
  FI : L2.Fun K "__init__" "BadText.__init__" sI_BadText aI dI
  bI : Binds K dI PI_BadText []
  iI : PySem.W.findIn K (.ref c_BadText) "__init__" = some (some (.ref aI))
  tI : PySem.W.typeIn K (.ref aI) = some (.type "function")
  k : PySem.W.keepIn K (.ref c_BadText) = true
  b : PySem.W.subIn K (.ref c_BadText) (.type "BaseException") = some true
  sV : PySem.W.subIn K (.ref c_BadText) (.type "ValueError") = some true
  bC : PySem.W.subIn K (.ref c_ControlError) (.type "BaseException") = some true
  ec : ExcC K c_BadText
  i_ControlError : PySem.W.isClsIn K c_ControlError = true
  t_ControlError : PySem.W.typeIn K (.ref c_ControlError) = some (.type "type")
  s_ControlError : PySem.W.subIn K (.ref c_BadText) (.ref c_ControlError) = some true
  i_InvalidExpression : PySem.W.isClsIn K c_InvalidExpression = true
  t_InvalidExpression : PySem.W.typeIn K (.ref c_InvalidExpression) = some (.type "type")
  s_InvalidExpression : PySem.W.subIn K (.ref c_BadText) (.ref c_InvalidExpression) = some false
  i_InvalidPlant : PySem.W.isClsIn K c_InvalidPlant = true
  t_InvalidPlant : PySem.W.typeIn K (.ref c_InvalidPlant) = some (.type "type")
  s_InvalidPlant : PySem.W.subIn K (.ref c_BadText) (.ref c_InvalidPlant) = some false
  i_InvalidArena : PySem.W.isClsIn K c_InvalidArena = true
  t_InvalidArena : PySem.W.typeIn K (.ref c_InvalidArena) = some (.type "type")
  s_InvalidArena : PySem.W.subIn K (.ref c_BadText) (.ref c_InvalidArena) = some false
  i_InvalidGoal : PySem.W.isClsIn K c_InvalidGoal = true
  t_InvalidGoal : PySem.W.typeIn K (.ref c_InvalidGoal) = some (.type "type")
  s_InvalidGoal : PySem.W.subIn K (.ref c_BadText) (.ref c_InvalidGoal) = some false
  i_BadText : PySem.W.isClsIn K c_BadText = true
  t_BadText : PySem.W.typeIn K (.ref c_BadText) = some (.type "type")
  s_BadText : PySem.W.subIn K (.ref c_BadText) (.ref c_BadText) = some true
  i_NoPosition : PySem.W.isClsIn K c_NoPosition = true
  t_NoPosition : PySem.W.typeIn K (.ref c_NoPosition) = some (.type "type")
  s_NoPosition : PySem.W.subIn K (.ref c_BadText) (.ref c_NoPosition) = some false
  i_Held : PySem.W.isClsIn K c_Held = true
  t_Held : PySem.W.typeIn K (.ref c_Held) = some (.type "type")
  s_Held : PySem.W.subIn K (.ref c_BadText) (.ref c_Held) = some false
  i_NotHeld : PySem.W.isClsIn K c_NotHeld = true
  t_NotHeld : PySem.W.typeIn K (.ref c_NotHeld) = some (.type "type")
  s_NotHeld : PySem.W.subIn K (.ref c_BadText) (.ref c_NotHeld) = some false
  i_BadReply : PySem.W.isClsIn K c_BadReply = true
  t_BadReply : PySem.W.typeIn K (.ref c_BadReply) = some (.type "type")
  s_BadReply : PySem.W.subIn K (.ref c_BadText) (.ref c_BadReply) = some false
  i_Lost : PySem.W.isClsIn K c_Lost = true
  t_Lost : PySem.W.typeIn K (.ref c_Lost) = some (.type "type")
  s_Lost : PySem.W.subIn K (.ref c_BadText) (.ref c_Lost) = some false
theorem Txt.brun_end {K : PySem.W.Frag} {mg : Str → Option Value} (T : Txt K mg) : Binds K T.drun_end Prun_end [] := T.Frun_end.binds fun _ _ _ _ _ _ us hl => match us, hl with | [_, _, _], _ => rfl
theorem Txt.bis_name {K : PySem.W.Frag} {mg : Str → Option Value} (T : Txt K mg) : Binds K T.dis_name Pis_name [] := T.Fis_name.binds fun _ _ _ _ _ _ us hl => match us, hl with | [_], _ => rfl
theorem Txt.bis_integer {K : PySem.W.Frag} {mg : Str → Option Value} (T : Txt K mg) : Binds K T.dis_integer Pis_integer [] := T.Fis_integer.binds fun _ _ _ _ _ _ us hl => match us, hl with | [_], _ => rfl
theorem Txt.btokens_of {K : PySem.W.Frag} {mg : Str → Option Value} (T : Txt K mg) : Binds K T.dtokens_of Ptokens_of [] := T.Ftokens_of.binds fun _ _ _ _ _ _ us hl => match us, hl with | [_], _ => rfl
theorem Txt.b_piece_end {K : PySem.W.Frag} {mg : Str → Option Value} (T : Txt K mg) : Binds K T.d_piece_end P_piece_end [] := T.F_piece_end.binds fun _ _ _ _ _ _ us hl => match us, hl with | [_, _], _ => rfl
theorem Txt.bread_whole {K : PySem.W.Frag} {mg : Str → Option Value} (T : Txt K mg) : Binds K T.dread_whole Pread_whole [] := T.Fread_whole.binds fun _ _ _ _ _ _ us hl => match us, hl with | [_, _], _ => rfl
theorem Txt.b_pass_token {K : PySem.W.Frag} {mg : Str → Option Value} (T : Txt K mg) : Binds K T.d_pass_token P_pass_token [] := T.F_pass_token.binds fun _ _ _ _ _ _ us hl => match us, hl with | [_, _, _], _ => rfl
theorem Txt.b_read_part {K : PySem.W.Frag} {mg : Str → Option Value} (T : Txt K mg) : Binds K T.d_read_part P_read_part [] := T.F_read_part.binds fun _ _ _ _ _ _ us hl => match us, hl with | [_, _, _, _], _ => rfl
theorem Txt.b_read_divisor {K : PySem.W.Frag} {mg : Str → Option Value} (T : Txt K mg) : Binds K T.d_read_divisor P_read_divisor [] := T.F_read_divisor.binds fun _ _ _ _ _ _ us hl => match us, hl with | [_, _], _ => rfl
theorem Txt.b_read_expression {K : PySem.W.Frag} {mg : Str → Option Value} (T : Txt K mg) : Binds K T.d_read_expression P_read_expression [] := T.F_read_expression.binds fun _ _ _ _ _ _ us hl => match us, hl with | [_, _, _], _ => rfl
theorem Txt.b_read_condition {K : PySem.W.Frag} {mg : Str → Option Value} (T : Txt K mg) : Binds K T.d_read_condition P_read_condition [] := T.F_read_condition.binds fun _ _ _ _ _ _ us hl => match us, hl with | [_, _, _], _ => rfl
theorem Txt.b_read_parts {K : PySem.W.Frag} {mg : Str → Option Value} (T : Txt K mg) : Binds K T.d_read_parts P_read_parts [] := T.F_read_parts.binds fun _ _ _ _ _ _ us hl => match us, hl with | [_, _, _, _], _ => rfl
theorem Txt.b_read_conditions {K : PySem.W.Frag} {mg : Str → Option Value} (T : Txt K mg) : Binds K T.d_read_conditions P_read_conditions [] := T.F_read_conditions.binds fun _ _ _ _ _ _ us hl => match us, hl with | [_, _, _], _ => rfl
theorem Txt.bread_expression {K : PySem.W.Frag} {mg : Str → Option Value} (T : Txt K mg) : Binds K T.dread_expression Pread_expression [] := T.Fread_expression.binds fun _ _ _ _ _ _ us hl => match us, hl with | [_], _ => rfl
theorem Txt.bread_condition {K : PySem.W.Frag} {mg : Str → Option Value} (T : Txt K mg) : Binds K T.dread_condition Pread_condition [] := T.Fread_condition.binds fun _ _ _ _ _ _ us hl => match us, hl with | [_], _ => rfl
theorem Txt.b_law_draws {K : PySem.W.Frag} {mg : Str → Option Value} (T : Txt K mg) : Binds K T.d_law_draws P_law_draws [] := T.F_law_draws.binds fun _ _ _ _ _ _ us hl => match us, hl with | [_, _], _ => rfl
theorem Txt.b_law_take {K : PySem.W.Frag} {mg : Str → Option Value} (T : Txt K mg) : Binds K T.d_law_take P_law_take [] := T.F_law_take.binds fun _ _ _ _ _ _ us hl => match us, hl with | [_, _], _ => rfl
theorem Txt.b_law_cell {K : PySem.W.Frag} {mg : Str → Option Value} (T : Txt K mg) : Binds K T.d_law_cell P_law_cell [] := T.F_law_cell.binds fun _ _ _ _ _ _ us hl => match us, hl with | [_, _], _ => rfl
theorem Txt.b_law_word {K : PySem.W.Frag} {mg : Str → Option Value} (T : Txt K mg) : Binds K T.d_law_word P_law_word [] := T.F_law_word.binds fun _ _ _ _ _ _ us hl => match us, hl with | [_], _ => rfl
theorem Txt.b_law_some_word {K : PySem.W.Frag} {mg : Str → Option Value} (T : Txt K mg) : Binds K T.d_law_some_word P_law_some_word [] := T.F_law_some_word.binds fun _ _ _ _ _ _ us hl => match us, hl with | [_], _ => rfl
theorem Txt.b_law_reserved {K : PySem.W.Frag} {mg : Str → Option Value} (T : Txt K mg) : Binds K T.d_law_reserved P_law_reserved [] := T.F_law_reserved.binds fun _ _ _ _ _ _ us hl => match us, hl with | [], _ => rfl
theorem Txt.b_law_name {K : PySem.W.Frag} {mg : Str → Option Value} (T : Txt K mg) : Binds K T.d_law_name P_law_name [] := T.F_law_name.binds fun _ _ _ _ _ _ us hl => match us, hl with | [_], _ => rfl
theorem Txt.b_law_names {K : PySem.W.Frag} {mg : Str → Option Value} (T : Txt K mg) : Binds K T.d_law_names P_law_names [] := T.F_law_names.binds fun _ _ _ _ _ _ us hl => match us, hl with | [_, _], _ => rfl
theorem Txt.b_law_is_integer {K : PySem.W.Frag} {mg : Str → Option Value} (T : Txt K mg) : Binds K T.d_law_is_integer P_law_is_integer [] := T.F_law_is_integer.binds fun _ _ _ _ _ _ us hl => match us, hl with | [_], _ => rfl
theorem Txt.b_law_number {K : PySem.W.Frag} {mg : Str → Option Value} (T : Txt K mg) : Binds K T.d_law_number P_law_number [] := T.F_law_number.binds fun _ _ _ _ _ _ us hl => match us, hl with | [_, _], _ => rfl
theorem Txt.b_law_leaf {K : PySem.W.Frag} {mg : Str → Option Value} (T : Txt K mg) : Binds K T.d_law_leaf P_law_leaf [] := T.F_law_leaf.binds fun _ _ _ _ _ _ us hl => match us, hl with | [_, _, _], _ => rfl
theorem Txt.b_law_expression {K : PySem.W.Frag} {mg : Str → Option Value} (T : Txt K mg) : Binds K T.d_law_expression P_law_expression [] := T.F_law_expression.binds fun _ _ _ _ _ _ us hl => match us, hl with | [_, _, _, _], _ => rfl
theorem Txt.b_law_test {K : PySem.W.Frag} {mg : Str → Option Value} (T : Txt K mg) : Binds K T.d_law_test P_law_test [] := T.F_law_test.binds fun _ _ _ _ _ _ us hl => match us, hl with | [_, _, _, _], _ => rfl
theorem Txt.b_law_inner {K : PySem.W.Frag} {mg : Str → Option Value} (T : Txt K mg) : Binds K T.d_law_inner P_law_inner [] := T.F_law_inner.binds fun _ _ _ _ _ _ us hl => match us, hl with | [_], _ => rfl
theorem Txt.b_law_depth {K : PySem.W.Frag} {mg : Str → Option Value} (T : Txt K mg) : Binds K T.d_law_depth P_law_depth [] := T.F_law_depth.binds fun _ _ _ _ _ _ us hl => match us, hl with | [_], _ => rfl
theorem Txt.b_law_is_test {K : PySem.W.Frag} {mg : Str → Option Value} (T : Txt K mg) : Binds K T.d_law_is_test P_law_is_test [] := T.F_law_is_test.binds fun _ _ _ _ _ _ us hl => match us, hl with | [_], _ => rfl
theorem Txt.b_law_around {K : PySem.W.Frag} {mg : Str → Option Value} (T : Txt K mg) : Binds K T.d_law_around P_law_around [] := T.F_law_around.binds fun _ _ _ _ _ _ us hl => match us, hl with | [_, _, _, _], _ => rfl
theorem Txt.b_law_many {K : PySem.W.Frag} {mg : Str → Option Value} (T : Txt K mg) : Binds K T.d_law_many P_law_many [] := T.F_law_many.binds fun _ _ _ _ _ _ us hl => match us, hl with | [_, _, _], _ => rfl
theorem Txt.b_law_great {K : PySem.W.Frag} {mg : Str → Option Value} (T : Txt K mg) : Binds K T.d_law_great P_law_great [] := T.F_law_great.binds fun _ _ _ _ _ _ us hl => match us, hl with | [_, _], _ => rfl
theorem Txt.b_law_tokens {K : PySem.W.Frag} {mg : Str → Option Value} (T : Txt K mg) : Binds K T.d_law_tokens P_law_tokens [] := T.F_law_tokens.binds fun _ _ _ _ _ _ us hl => match us, hl with | [_], _ => rfl
theorem Txt.b_law_text_item {K : PySem.W.Frag} {mg : Str → Option Value} (T : Txt K mg) : Binds K T.d_law_text_item P_law_text_item [] := T.F_law_text_item.binds fun _ _ _ _ _ _ us hl => match us, hl with | [_, _, _], _ => rfl
theorem Txt.b_law_is_joined {K : PySem.W.Frag} {mg : Str → Option Value} (T : Txt K mg) : Binds K T.d_law_is_joined P_law_is_joined [] := T.F_law_is_joined.binds fun _ _ _ _ _ _ us hl => match us, hl with | [_, _], _ => rfl
theorem Txt.b_law_spaced {K : PySem.W.Frag} {mg : Str → Option Value} (T : Txt K mg) : Binds K T.d_law_spaced P_law_spaced [] := T.F_law_spaced.binds fun _ _ _ _ _ _ us hl => match us, hl with | [_, _, _], _ => rfl
theorem Txt.b_law_pattern {K : PySem.W.Frag} {mg : Str → Option Value} (T : Txt K mg) : Binds K T.d_law_pattern P_law_pattern [] := T.F_law_pattern.binds fun _ _ _ _ _ _ us hl => match us, hl with | [_, _], _ => rfl
theorem Txt.b_law_put {K : PySem.W.Frag} {mg : Str → Option Value} (T : Txt K mg) : Binds K T.d_law_put P_law_put [] := T.F_law_put.binds fun _ _ _ _ _ _ us hl => match us, hl with | [_, _, _, _], _ => rfl
theorem Txt.b_law_fits {K : PySem.W.Frag} {mg : Str → Option Value} (T : Txt K mg) : Binds K T.d_law_fits P_law_fits [] := T.F_law_fits.binds fun _ _ _ _ _ _ us hl => match us, hl with | [_, _], _ => rfl
theorem Txt.b_law_bad_token {K : PySem.W.Frag} {mg : Str → Option Value} (T : Txt K mg) : Binds K T.d_law_bad_token P_law_bad_token [] := T.F_law_bad_token.binds fun _ _ _ _ _ _ us hl => match us, hl with | [_, _], _ => rfl
theorem Txt.b_law_misfit {K : PySem.W.Frag} {mg : Str → Option Value} (T : Txt K mg) : Binds K T.d_law_misfit P_law_misfit [] := T.F_law_misfit.binds fun _ _ _ _ _ _ us hl => match us, hl with | [_, _, _, _], _ => rfl
theorem Txt.b_law_error_name {K : PySem.W.Frag} {mg : Str → Option Value} (T : Txt K mg) : Binds K T.d_law_error_name P_law_error_name [] := T.F_law_error_name.binds fun _ _ _ _ _ _ us hl => match us, hl with | [_], _ => rfl
theorem Txt.b_law_gap {K : PySem.W.Frag} {mg : Str → Option Value} (T : Txt K mg) : Binds K T.d_law_gap P_law_gap [] := T.F_law_gap.binds fun _ _ _ _ _ _ us hl => match us, hl with | [_, _], _ => rfl
theorem Txt.b_law_refused {K : PySem.W.Frag} {mg : Str → Option Value} (T : Txt K mg) : Binds K T.d_law_refused P_law_refused [] := T.F_law_refused.binds fun _ _ _ _ _ _ us hl => match us, hl with | [_, _, _], _ => rfl
theorem Txt.blaw {K : PySem.W.Frag} {mg : Str → Option Value} (T : Txt K mg) : Binds K T.dlaw Plaw [] := T.Flaw.binds fun _ _ _ _ _ _ us hl => match us, hl with | [_], _ => rfl
end NL

set_option maxHeartbeats 4000000
namespace NL
open PySem PySem.Spec PyProof.Rows L2 L2H HotX
/-! ### where an exception is handled: a range walked in a comprehension -/
structure TurnG (P : Program) (w : World) (K : PySem.W.Frag) (tg : Expr) (J : L2.It) (fp : List Addr) (it : Addr) (tn : Nat → Heap → Prop) : Prop where
  mem : it ∈ fp
  obj : ∀ i h, tn i h → ∀ b ∈ fp, ∃ o, h.get? b = some o ∧ ∀ v, o.data ≠ .cell v
  keep : ∀ i h h', tn i h → (∀ b ∈ fp, ∀ o, h.get? b = some o → h'.get? b = some o) → tn i h'
  item : ∀ (X : Cx), X.prog = P → X.w = w → X.K = K → ∀ (i : Nat) (pins : List (Addr × Obj)) (s : Shared) (σ : L2.St) (H : Hp) (E : Value → Shared → Prop), Inv X pins σ H s → (∀ b ∈ fp, FpOk X pins H b) → tn i s.heap → J.go i H →
    wpAny (model P w) X.A (pyNext (.ref it)) (fun r s1 => ∃ u, r = some u ∧
      wpAny (model P w) X.A (letOwnedTupleGo tg (.ref it) u) (fun _ s2 => ∃ x H', Inv X pins σ H' s2 ∧ RelV x u ∧ J.yld i H x H' ∧ tn (i + 1) s2.heap ∧ ∀ b ∈ fp, H' b = none) E s1) E s
  done : ∀ (X : Cx), X.prog = P → X.w = w → X.K = K → ∀ (i : Nat) (pins : List (Addr × Obj)) (s : Shared) (σ : L2.St) (H : Hp) (E : Value → Shared → Prop), (∃ x1, HotAt X.A x1 s.heap) → Inv X pins σ H s → (∀ b ∈ fp, FpOk X pins H b) → tn i s.heap → J.stop i H →
    wpAny (model P w) X.A (pyNext (.ref it)) (fun r s1 => r = none ∧ Inv X pins σ H s1) E s
  self : ∀ (A : Around) (i : Nat) (s : Shared) (Q : Value → Shared → Prop) (E : Value → Shared → Prop), tn i s.heap → Q (.ref it) s → wpAny (model P w) A (pyIter (.ref it)) Q E s
theorem turn_rangeG {P : Program} {w : World} {K : PySem.W.Frag} {tg : Expr} (it : Addr) (lo : Int) (n : Nat) : TurnG P w K tg (Itr lo n) [it] it (fun i h => IsRangeIter h it (lo + (i : Nat) * 1) ((n : Int) - (i : Nat)) 1) where
  mem := by simp
  obj := fun i h st b hb => by
    have e : b = it := by simpa using hb
    subst e
    exact ⟨_, st, fun v z => by
      have z' : Data.fields _ = Data.cell v := z
      cases z'⟩
  keep := fun i h h' st k => k it (by simp) _ st
  item := by
    intro X hP hw hK i pins s σ H E I hf st hg
    subst hP hw hK
    obtain ⟨f0, f1, f2, f3, f4, f5⟩ := hf it (by simp)
    have hlt : i < n := hg
    refine wpAny_pyNext_range_item st (by omega) fun h' st' sb => ?_
    have st2 : IsRangeIter h' it (lo + ((i + 1 : Nat) : Int) * 1) ((n : Int) - ((i + 1 : Nat) : Int)) 1 := by
      have e1 : lo + ((i : Nat) : Int) * 1 + 1 = lo + ((i + 1 : Nat) : Int) * 1 := by omega
      have e2 : (n : Int) - ((i : Nat) : Int) - 1 = (n : Int) - ((i + 1 : Nat) : Int) := by omega
      rw [← e1, ← e2]
      exact st'
    have I1 : Inv X pins σ H { s with heap := h', toks := s.toks + 1 } := I.turned (fun b o hb e => (sb.2 b hb).trans e) f0 f1 f3 f4 f5
    refine ⟨_, rfl, go_of (s := { s with heap := h', toks := s.toks + 1 }) (n := "range_iterator") st2 rfl rfl (by decide) ⟨.int (lo + i), H, I1, ⟨s.toks, ?_⟩, ⟨rfl, rfl⟩, st2, fun b hb => (hf b hb).1⟩⟩
    rw [Int.mul_one]
  done := by
    intro X hP hw hK i pins s σ H E hc I hf st hg
    subst hP hw hK
    obtain ⟨f0, f1, f2, f3, f4, f5⟩ := hf it (by simp)
    obtain ⟨x1, hot⟩ := hc
    exact pyNext_range_end_hot hot st (by have : n ≤ i := hg; omega) fun h' eb => ⟨rfl, I.turned (t' := s.toks) (fun b o _ e => eb b o e) f0 f1 f3 f4 f5⟩
  self := fun _ _ _ _ _ st h => wpAny_pyIter_rangeiter st h
def PIEG (X : Cx) (pins : List (Addr × Obj)) (σ : L2.St) (tg : Expr) (R : L2.It → Hp → Prop) (itv : Value) (s2 : Shared) : Prop :=
  ∃ (it : Addr) (fp : List Addr) (tn : Nat → Heap → Prop) (J : L2.It) (H' : Hp), itv = .ref it ∧ Inv X pins σ H' s2 ∧ TurnG X.prog X.w X.K tg J fp it tn ∧ tn 0 s2.heap ∧ (∀ b ∈ fp, FpOk X pins H' b) ∧ R J H'
structure PIG (X : Cx) (tg iter : Expr) (wi : TI) : Prop where
  run : ∀ (pins : List (Addr × Obj)) (s : Shared) (σ : L2.St) (H : Hp) (R : L2.It → Hp → Prop), Inv X pins σ H s → wi σ H R →
    wpAny (model X.prog X.w) X.A (eval iter X.env) (fun v s1 => wpAny (model X.prog X.w) X.A (pyIter v) (PIEG X pins σ tg R) X.xe s1) X.xe s
section
variable {X : Cx} {tg : Expr}
theorem range_itG {pins : List (Addr × Obj)} {σ : L2.St} {H : Hp} {s : Shared} {R : L2.It → Hp → Prop} {E : Value → Shared → Prop} {lo hi : Int} {t u v : Tok} {tk : Nat} (I : Inv X pins σ H s) (h1 : -(2 ^ 62) ≤ lo) (h2 : lo < 2 ^ 62) (h3 : -(2 ^ 62) ≤ hi) (h4 : hi < 2 ^ 62)
    (q : R (Itr lo (hi - lo).toNat) H) : wpAny (model X.prog X.w) X.A (pyIter (.ref s.heap.objs.size)) (PIEG X pins σ tg R) E { s with heap := s.heap.push { cls := .type "range", data := .fields #[.int lo t, .int hi u, .int 1 v] }, toks := tk } := by
  refine wpAny_pyIter_range (IsRange.new ..) (small_one h1 h2 h3 h4) ?_
  have I1 : Inv X pins σ H { s with heap := s.heap.push { cls := .type "range", data := .fields #[.int lo t, .int hi u, .int 1 v] }, toks := tk } := I.kept fun b o e => Heap.get?_push_of_some _ e
  refine ⟨(s.heap.push { cls := .type "range", data := .fields #[.int lo t, .int hi u, .int 1 v] }).objs.size, [(s.heap.push { cls := .type "range", data := .fields #[.int lo t, .int hi u, .int 1 v] }).objs.size], _, _, H, rfl,
    I1.kept (t' := tk) fun b o e => Heap.get?_push_of_some _ e, turn_rangeG _ lo (hi - lo).toNat, ?_, fun b hb => ?_, q⟩
  · have e1 : lo + ((0 : Nat) : Int) * 1 = lo := by simp
    have e2 : (((hi - lo).toNat : Nat) : Int) - ((0 : Nat) : Int) = Builtin.Range.rangeSize lo hi 1 := by rw [rangeSize_one]; split <;> omega
    show IsRangeIter _ _ (lo + ((0 : Nat) : Int) * 1) ((((hi - lo).toNat : Nat) : Int) - ((0 : Nat) : Int)) 1
    rw [e1, e2]
    exact Heap.get?_push_size _ rfl
  · have e : b = (s.heap.push { cls := .type "range", data := .fields #[.int lo t, .int hi u, .int 1 v] }).objs.size := by simpa using hb
    subst e
    exact I1.fpOk (Nat.le_refl _) (I1.hok.fresh (Nat.le_refl _))
theorem pi_range1G {a : Expr} {ta : TA} {p pos : Pos} (hg : Gl X "range") (hm : X.mg "range" = none) (ha : PA X [a] ta) (hs : starEach [a] X.env = [(false, eval a X.env)] := by rfl) : PIG X tg (.Call (.Name "range" p) [a] [] pos) (iRng1 ta) := by
  refine ⟨fun pins s σ H R I h => ?_⟩
  refine Call_ (ld_blt I hg hm boot_range (PyProof.Rows.callWith_type1 (thn (ha.run pos pins s σ H _ I h) fun us s1 ⟨vs, H1, I1, r1, q1⟩ => ?_) hs rfl))
  obtain ⟨j, e, q1, q2, q⟩ := q1
  subst e
  cases r1 with
  | cons r rr =>
    cases rr
    obtain ⟨t, rfl⟩ := r
    exact call_range_1 (range_itG I1 (by omega) (by omega) q1 q2 (by simpa using q))
end
section
variable {X : Cx}
theorem lc_coreG {pins : List (Addr × Obj)} {s : Shared} {σ : L2.St} {H : Hp} {Q : VK} {elt tg iter : Expr} {ifs : List Expr} {scope : Scope} {own : List (Str × Nat)} {pos pos' : Pos} {wi : TI} {g : TG} {tt : TT} {te : TE} {use : Option (Value → Sem Unit)} {Qf : Value → Shared → Prop}
    (hc : HotC X) (hN : X.N.Nodup) (I : Inv X pins σ H s) (hi : PIG X tg iter wi) (ok : BlkOk X.N X.env.scope scope own)
    (hg : ∀ (s : Shared) (H : Hp) (C : Addr) (cl : List (Str × Addr)) (fp : List Addr), PG (X.blk s H scope (compEnvC scope cl C X.env) fp) tg g) (ht : ∀ (s : Shared) (H : Hp) (C : Addr) (cl : List (Str × Addr)) (fp : List Addr), PTs (X.blk s H scope (compEnvC scope cl C X.env) fp) ifs tt)
    (he : ∀ (s : Shared) (H : Hp) (C : Addr) (cl : List (Str × Addr)) (fp : List Addr), PE (X.blk s H scope (compEnvC scope cl C X.env) fp) elt te) (hs : ∀ x, foldedSetIterable iter X.env x = pure x)
    (h : tLc wi g tt te (own.map (·.2)) σ H Q)
    (hRR : ∀ D C s' m H', Inv X pins σ H' s' → Q (.ref D) H' → s'.heap.Ns C m → FpOk X pins H' C → compPost (model X.prog X.w) X.A X.xe use Qf (.ref D) C (.ok .next) s') :
    wpAny (model X.prog X.w) X.A (comprehension (.ListComp elt [⟨tg, iter, ifs, 0⟩] scope pos) scope X.env pos' (newList []) false (eval iter X.env) use) Qf X.xe s := by
  have hfree : ∀ y ∈ scope.names, y.2 = .free → ∃ c, X.env.cells.lookup y.1 = some c := fun y hy e => by
    rcases ok.free y hy e with k | k
    · exact I.ok.has _ (.inl k)
    · exact I.ok.has _ (.inr k)
  refine wpAny_comprehension_free (use := use) rfl hs (closure_ok hfree) ok.kind (fun y hy e => by rw [ok.uniq y hy, e])
    (thn (hi.run pins s σ H _ I h) fun xv s1 hx => thn hx fun itv s2 h2 => ?_)
  obtain ⟨it, fp, tn, J, H2, e, I2, T, st2, f2, q⟩ := h2
  subst e
  refine wpAny_newObj_type (newEnv_comp ?_) (by show 0 ≤ sizeLine; decide)
  generalize hD : s2.heap.objs.size = D
  have hDn : H2 D = none := I2.hok.fresh (Nat.le_of_eq hD)
  obtain ⟨W, ⟨m0, w0⟩, turn⟩ := q D hDn
  -- the new list
  generalize hs3 : ({ s2 with heap := s2.heap.push { cls := .type "list", data := .seq ([] : List Value).toArray } } : Shared) = s3
  have I3 : Inv X pins σ (upd H2 D (.lst [])) s3 := by
    rw [← hs3]
    refine I2.laid (t' := s2.toks) (fun b o e => Heap.get?_push_of_some _ e) (Nat.le_of_eq hD) ⟨Nat.zero_le _, [], 0, .nil, ?_⟩
    rw [← hD]
    exact Heap.get?_push_size _ rfl
  have h3 : s3.heap = s2.heap.push { cls := .type "list", data := .seq ([] : List Value).toArray } := by rw [← hs3]
  have sz : ∀ b ∈ fp, b < s2.heap.objs.size := fun b hb => by
    obtain ⟨o, e, _⟩ := T.obj _ _ st2 b hb
    exact Heap.lt_size e
  have f3 : ∀ b ∈ fp, FpOk X pins (upd H2 D (.lst [])) b ∧ b < s3.heap.objs.size := fun b hb => by
    have hlt := sz b hb
    refine ⟨⟨?_, (f2 b hb).2⟩, by rw [h3, Heap.size_push]; exact Nat.lt_succ_of_lt hlt⟩
    rw [upd_ne (by rw [← hD]; exact Nat.ne_of_lt hlt)]
    exact (f2 b hb).1
  have st3 : tn 0 s3.heap := T.keep _ _ _ st2 fun b _ o e => by rw [h3]; exact Heap.get?_push_of_some _ e
  have I4 := block_start I3 ok hN f3
  have pg := hg s3 (upd H2 D (.lst [])) s3.heap.objs.size (cellsFrom (s3.heap.objs.size + 1) scope.names (cloFrom X.env.cells scope.names [])) fp
  have pt := ht s3 (upd H2 D (.lst [])) s3.heap.objs.size (cellsFrom (s3.heap.objs.size + 1) scope.names (cloFrom X.env.cells scope.names [])) fp
  have pe := he s3 (upd H2 D (.lst [])) s3.heap.objs.size (cellsFrom (s3.heap.objs.size + 1) scope.names (cloFrom X.env.cells scope.names [])) fp
  show codeAny _ _ (.compStart (.ListComp elt [⟨tg, iter, ifs, 0⟩] scope pos) 0 (.ref it) (.ref D) (compEnvC scope (cellsFrom (s3.heap.objs.size + 1) scope.names (cloFrom X.env.cells scope.names [])) s3.heap.objs.size X.env)) (compPost (model X.prog X.w) X.A X.xe use Qf (.ref D) s3.heap.objs.size) { s3 with heap := pushCells (s3.heap.push { cls := .type "dict", data := .dict #[] }) scope.names }
  have nfp : ∀ b ∈ fp, (upd H2 D (.lst [])) b = none := fun b hb => (f3 b hb).1.1
  generalize hce : compEnvC scope (cellsFrom (s3.heap.objs.size + 1) scope.names (cloFrom X.env.cells scope.names [])) s3.heap.objs.size X.env = ce at I4 pg pt pe ⊢
  have cL : ce.locals = s3.heap.objs.size := by subst hce; rfl
  generalize hH3 : upd H2 D (.lst []) = H3 at I3 I4 pg pt pe w0 nfp f3
  generalize hs4 : ({ s3 with heap := pushCells (s3.heap.push { cls := .type "dict", data := .dict #[] }) scope.names } : Shared) = s4 at I4 ⊢
  have st4 : tn 0 s4.heap := T.keep _ _ _ st3 fun b _ o e => by rw [← hs4]; exact pushCells_keeps _ _ _ _ (Heap.get?_push_of_some _ e)
  have stat : ∀ {σ' : L2.St} {H' : Hp} {s' : Shared}, Inv (X.blk s3 H3 scope ce fp) [] σ' H' s' → (∀ b ∈ fp, H' b = none) → ∀ b ∈ fp, FpOk (X.blk s3 H3 scope ce fp) [] H' b := fun {σ' H' s'} I' hn b hb =>
    ⟨hn b hb, (I'.ok.exf b hb).1, I'.ok.exfs b hb, .inl hb, fun x c e => (I'.ok.exf b hb).2 x c e, fun p hp => absurd (show p ∈ ([] : List (Addr × Obj)) ++ [] from hp) (by simp)⟩
  have loop : codeAny (model X.prog X.w) X.A (.compLoop (.ListComp elt [⟨tg, iter, ifs, 0⟩] scope pos) 0 (.ref it) (.ref D) ce) (compPost (model X.prog X.w) X.A X.xe use Qf (.ref D) s3.heap.objs.size) s4 := by
    refine compLoop_any (fun n s' => ∃ i H', Inv (X.blk s3 H3 scope ce fp) [] (wipe σ (own.map (·.2))) H' s' ∧ tn i s'.heap ∧ (∀ b ∈ fp, H' b = none) ∧ W i n H') ?_ m0 ⟨0, H3, I4, st4, nfp, w0⟩
    rintro n s5 ⟨i, H5, I5, st5, n5, w5⟩
    rcases turn i n H5 w5 with ⟨stop, qq⟩ | ⟨go, Nx, hNx, step⟩
    · have hot5 : ∃ x1, HotAt (X.blk s3 H3 scope ce fp).A x1 s5.heap := by
        obtain ⟨p, ⟨hh, v1, e1, c1⟩, hp⟩ := hc
        obtain ⟨g1, g2, g3, g4, g5⟩ := I3.pin p (List.mem_append_left _ hp)
        have nfpp : p.1 ∉ fp := fun z => ((f3 p.1 z).1.2.2.2.2.2 p (List.mem_append_left _ hp)) rfl
        obtain ⟨sl, e2⟩ := I5.base.any g1 g2 nfpp
        exact ⟨p.1, hh, _, v1, e2, e1, c1⟩
      have td := T.done (X.blk s3 H3 scope ce fp) rfl rfl rfl i [] s5 _ H5 (fun _ _ => False) hot5 I5 (stat I5 n5) st5 stop
      refine thnF td fun r s6 ⟨hr, I6⟩ => ?_
      subst hr
      -- back in the def's context
      have I7 : Inv X pins σ H5 s6 := I3.call' (ch := fp) I6.os I6.base I6.hok I6.bare fun b hb => ⟨(f3 b hb).1.2.2.2.1, (f3 b hb).1.2.1, (f3 b hb).1.2.2.2.2.1, (f3 b hb).1.2.2.2.2.2⟩
      have nC : H5 s3.heap.objs.size = none := by
        have z : H5 ce.locals = none := I6.free
        rw [cL] at z
        exact z
      obtain ⟨m, hn, _⟩ := I6.loc
      have hn : s6.heap.Ns ce.locals m := hn
      rw [cL] at hn
      exact hRR D s3.heap.objs.size s6 m H5 I7 qq hn (I3.fpOk (Nat.le_refl _) nC)
    · have ti := T.item (X.blk s3 H3 scope ce fp) rfl rfl rfl i [] s5 _ H5 (fun _ _ => False) I5 (stat I5 n5) st5 go
      refine thnF ti fun r s6 ⟨u, hr, h6⟩ => ?_
      subst hr
      refine thnF h6 fun _ s7 ⟨x, H7, I7, r7, y7, st7, n7⟩ => ?_
      have I7' := I7.pinned (stat I7 n7) (T.obj _ _ st7)
      refine thnF (pg.run _ s7 _ H7 x u _ I7' r7 (step x H7 y7)) fun _ s8 ⟨σ8, H8, I8, hw8, q8⟩ => ?_
      refine thnF (pt.run _ s8 σ8 H8 _ I8 q8) fun b s9 ⟨H9, I9, q9⟩ => ?_
      -- the turn's end
      have fin : ∀ {s' : Shared} {H' : Hp}, Inv (X.blk s3 H3 scope ce fp) ([] ++ pinsAt fp s7.heap) σ8 H' s' → Nx H' → ∃ m, m < n ∧ ∃ i H', Inv (X.blk s3 H3 scope ce fp) [] (wipe σ (own.map (·.2))) H' s' ∧ tn i s'.heap ∧ (∀ b ∈ fp, H' b = none) ∧ W i m H' := fun {s' H'} I' nx => by
        obtain ⟨m', hm, w'⟩ := hNx H' nx
        have pin' : ∀ b ∈ fp, ∀ o, s7.heap.get? b = some o → s'.heap.get? b = some o ∧ H' b = none := fun b hb o e =>
          let z := I'.pin (b, o) (List.mem_append_right _ (List.mem_append_right _ (mem_pinsAt hb e)))
          ⟨z.1, z.2.1⟩
        have hl : (wipe σ (own.map (·.2))).length = σ8.length := by rw [← hw8, wipe_length]
        refine ⟨m', hm, i + 1, H', (I'.unpinned (pins := [])).weak hl (fun j v e => ?_), T.keep _ _ _ st7 fun b hb o e => (pin' b hb o e).1, fun b hb => ?_, w'⟩
        · rw [← hw8] at e
          exact (wipe_some e).1
        · obtain ⟨o, e, _⟩ := T.obj _ _ st7 b hb
          exact (pin' b hb o e).2
      cases b with
      | false =>
        simp only [Bool.false_eq_true, if_false] at q9 ⊢
        exact fin I9 q9
      | true =>
        simp only [if_true] at q9 ⊢
        refine thnF (pe.run _ s9 σ8 H9 _ I9 q9) fun z s10 ⟨yv, H10, I10, r10, acc, hD10, hz10, nx⟩ => ?_
        exact app_ok (X := X.blk s3 H3 scope ce fp) I10 hD10 hz10 r10 fun s11 I11 => fin I11 nx
  exact codeAny_compStart_list loop (T.self X.A 0 _ _ _ st4 loop)
/-- name = [..] on one line, the name a local -/
theorem ps_setLcG {i : Nat} {y : Str} {py : Pos} {elt tg iter : Expr} {ifs : List Expr} {scope : Scope} {own : List (Str × Nat)} {pos spos : Pos} {wi : TI} {g : TG} {tt : TT} {te : TE} (hc : HotC X) (hN : X.N.Nodup) (hy : X.N[i]? = some y) (hyl : X.env.scope.names.lookup y = some .local)
    (hsw : swapsWith (.ListComp elt [⟨tg, iter, ifs, 0⟩] scope pos) (some (.Name y py)) spos.line X.env = pure true) (hi : PIG X tg iter wi) (ok : BlkOk X.N X.env.scope scope own)
    (hg : ∀ (s : Shared) (H : Hp) (C : Addr) (cl : List (Str × Addr)) (fp : List Addr), PG (X.blk s H scope (compEnvC scope cl C X.env) fp) tg g) (ht : ∀ (s : Shared) (H : Hp) (C : Addr) (cl : List (Str × Addr)) (fp : List Addr), PTs (X.blk s H scope (compEnvC scope cl C X.env) fp) ifs tt)
    (he : ∀ (s : Shared) (H : Hp) (C : Addr) (cl : List (Str × Addr)) (fp : List Addr), PE (X.blk s H scope (compEnvC scope cl C X.env) fp) elt te) (hs : ∀ x, foldedSetIterable iter X.env x = pure x := by intro _; rfl) :
    PS X (.Assign [.Name y py] (.ListComp elt [⟨tg, iter, ifs, 0⟩] scope pos) spos) (tAsg (tLc wi g tt te (own.map (·.2))) (gName i)) := by
  refine ⟨fun pins s σ H D I h => ?_⟩
  rw [exec_Assign_Name_used _ _ _ _ hsw]
  refine wpAny_bind (wpAny_standAt (wpAny_bind ?_))
  show wpAny _ X.A (do let _ ← comprehension (.ListComp elt [⟨tg, iter, ifs, 0⟩] scope pos) scope X.env (firstIterPos [⟨tg, iter, ifs, 0⟩] pos) (newList []) false (eval iter X.env) (some (assign (.Name y py) X.env))) _ _ s
  have h : tLc wi g tt te (own.map (·.2)) σ H (fun x H1 => gName i x σ H1 D.nx) := h
  refine wpAny_bind (thn (lc_coreG (Qf := fun _ s' => SP X pins D .next s') hc hN I hi ok hg ht he hs h fun L C s' m H' I' q hn f => ?_) fun _ s' hq => wpAny_pure (wpAny_pure hq))
  show wpAny _ _ (assign (.Name y py) X.env (.ref L)) _ _ _
  refine wpAny_assign_Name (store_ok2 (v := V.ref L) I' hN hy (.inl hyl) rfl (fun s2 I2 ⟨a, sb, ha⟩ => ?_) (.inr hyl))
  obtain ⟨f0, f1, f2, f3, f4, f5⟩ := f
  have haC : C ≠ a := by
    rcases ha with z | z
    · rw [z]; exact f1
    · exact fun e => f4 y a z e.symm
  refine ⟨m, hn.sameBut sb haC, fun h3 sb3 => ?_⟩
  exact ⟨_, H', I2.turned (t' := s2.toks) (fun b o hb e => (sb3.2 b hb).trans e) f0 f1 f3 f4 f5, q⟩
end
end NL

namespace NL
open PySem PySem.Spec PyProof.Rows L2 L2H HotX
/-! ### a def that is given the error that is handled -/
abbrev SpE := Addr → Value → Option Addr → Sp
structure FnE (P : Program) (w : World) (K : PySem.W.Frag) (mg : Str → Option Value) (base : Heap) (CX : CXT) (k : Nat) (f : Addr) (fd : FuncData) (ps : List Str) (sp : SpE) : Prop where
  len : ∀ a cls d vs H Q E, sp a cls d vs H Q E → vs.length = ps.length
  run : ∀ (A : Around) (outer : List Env) (s : Shared) (H : Hp) (args : Args) (us : List Value) (vs : List V) (Q : VK) (E : XK) (p : Addr × Obj) (cls : Value) (d : Option Addr), RoomH k A → Hot1 A p → Zc cls d p.2 → PinOk outer H s p → Env0 P w K mg base A outer s H → BindsTo s fd args (ps.zip us) → Vals vs us → sp p.1 cls d vs H Q E →
    codeAny (model P w) A (.call (.ref f) args) (CR CX outer P w H s Q E) s
theorem fn_ofE {CX : CXT} {P : Program} {w : World} {K : PySem.W.Frag} {mg : Str → Option Value} {base : Heap} {k : Nat} {f : Addr} {name qual : Str} {params : Arguments} {body : List Stmt} {scope : Scope} {dV kV doc pm cdv ct oc : Value} {an od : Option Addr}
    {osl : Array (Option Value)} {N ps : List Str} {sp : SpE} (lk : K.lookup f = some ⟨oc, od, .func (PySem.W.fnOf name qual params body scope dV kV doc pm an cdv ct), osl⟩) (hcd : PySem.W.codeIn K cdv qual = true) (S : FnScope N ps scope)
    (len : ∀ a cls d vs H Q E, sp a cls d vs H Q E → vs.length = ps.length)
    (hbody : ∀ (A : Around) (outer : List Env) (s : Shared) (H : Hp) (vs : List V) (Q : VK) (E : XK) (p : Addr × Obj) (cls : Value) (d : Option Addr), Hot1 A p → Zc cls d p.2 → RoomH k (A.deeper (envOfC qual scope s.heap.objs.size f cdv)) → sp p.1 cls d vs H Q E →
      ∃ t, PSs (cxH CX P w K mg base N qual scope f cdv A outer s H E p) body t ∧ t { nx := fun _ H' => Q .non H', rt := Q } (L2.start N vs) H) :
    FnE P w K mg base CX (k + 1) f (PySem.W.fnOf name qual params body scope dV kV doc pm an cdv ct) ps sp := by
  refine ⟨len, fun A outer s H args us vs Q E p cls d hr hot hz hpin e0 hb r hsp => ?_⟩
  have hl := len _ _ _ _ _ _ _ hsp
  have KX : K.In s.heap := e0.mod.kin.keeps fun b o e => (e0.bs b o e).1
  have lim : s.heap.NoLimit := e0.mod.nolimit.keeps fun b o e => (e0.bs b o e).1
  have hkind : ∀ y ∈ ps.zip us, scope.names.lookup y.1 = some .local ∨ (scope.names.lookup y.1 = some .cell ∧ ((cellsFrom (s.heap.objs.size + 1) scope.names []).lookup y.1).isSome = true) := fun ⟨n, v⟩ hy => by
    rcases S.par n (List.of_mem_zip hy).1 with q | q
    · exact .inl q
    · exact .inr ⟨q, PySem.W.cellsFrom_some _ _ _ (.inl q)⟩
  refine codeAny_call_function hr.depth (KX _ _ lk) rfl S.co S.gen rfl (PySem.W.codeRec_of KX hcd) (hb _ _ _ _ ?_)
  refine wpAny_newFunctionEnv_cells S.kind hkind fun env he s1 x => ?_
  subst he
  refine ⟨lim.keeps x.toInCall.keep, codeAny_func ?_⟩
  obtain ⟨t, ht, hq⟩ := hbody A outer s H vs Q E p cls d hot hz (hr.deeper _) hsp
  have I : Inv (cxH CX P w K mg base N qual scope f cdv A outer s H E p) [] (L2.start N vs) H s1 := inv_startH S hpin e0 hl r x
  refine wpAny_mono (ht.run [] s1 (L2.start N vs) H _ I hq) (fun fl s' hs => ?_) fun e s' hs => hs
  have fin : ∀ {σ' : L2.St} {H' : Hp} {v : V} {u : Value}, Inv (cxH CX P w K mg base N qual scope f cdv A outer s H E p) [] σ' H' s' → RelV v u → Q v H' → CE outer P w H s Q u s' :=
    fun {σ' H' v u} J rv q => ⟨v, H', J.os, J.bare, J.base, J.hok, rv, q⟩
  cases fl with
  | ret u =>
    obtain ⟨v, σ', H', J, rv, q⟩ := hs
    exact fin J rv q
  | next =>
    obtain ⟨σ', H', J, q⟩ := hs
    exact fin (v := V.non) (u := Value.none) J rfl q
  | brk =>
    obtain ⟨_, _, _, q⟩ := hs
    exact False.elim q
  | cont =>
    obtain ⟨_, _, _, q⟩ := hs
    exact False.elim q
section
variable {P : Program} {w : World} {K : PySem.W.Frag} {mg : Str → Option Value} {base : Heap}
theorem okE {x qual : Str} {st : Stmt} {f : Addr} {fd : FuncData} {N ps : List Str} {k : Nat} {sp : SpE} (F : L2.Fun K x qual st f fd) (S : FnScope N ps (defScope st)) (len : ∀ a cls d vs H Q E, sp a cls d vs H Q E → vs.length = ps.length)
    (hbody : ∀ (cdv : Value) (A : Around) (outer : List Env) (s : Shared) (H : Hp) (vs : List V) (Q : VK) (E : XK) (p : Addr × Obj) (cls : Value) (d : Option Addr), Hot1 A p → Zc cls d p.2 → RoomH k (A.deeper (envOfC qual (defScope st) s.heap.objs.size f cdv)) → sp p.1 cls d vs H Q E →
      ∃ t, PSs (cxH CX0 P w K mg base N qual (defScope st) f cdv A outer s H E p) (defBody st) t ∧ t { nx := fun _ H' => Q .non H', rt := Q } (L2.start N vs) H) : FnE P w K mg base CX0 (k + 1) f fd ps sp := by
  obtain ⟨oc, od, kV, doc, pm, an, cdv, ct, osl, rfl, lk, hcd⟩ := F.ex
  exact fn_ofE lk hcd S len fun A outer s H vs Q E p cls d hot hz hr hsp => hbody cdv A outer s H vs Q E p cls d hot hz hr hsp
/-- a def that may raise: the errors bear that nothing was handled where they were made -/
theorem okN {x qual : Str} {st : Stmt} {f : Addr} {fd : FuncData} {N ps : List Str} {k : Nat} {sp : Sp} (F : L2.Fun K x qual st f fd) (S : FnScope N ps (defScope st)) (len : ∀ vs H Q E, sp vs H Q E → vs.length = ps.length)
    (hbody : ∀ (cdv : Value) (A : Around) (outer : List Env) (s : Shared) (H : Hp) (vs : List V) (Q : VK) (E : XK), Room k (A.deeper (envOfC qual (defScope st) s.heap.objs.size f cdv)) → sp vs H Q E →
      ∃ t, PSs (cxOf (L2N.CX P w) P w K mg base N qual (defScope st) f cdv A outer s H E) (defBody st) t ∧ t { nx := fun _ H' => Q .non H', rt := Q } (start N vs) H) : FnOk P w K mg base (L2N.CX P w) (k + 1) f fd ps sp := by
  obtain ⟨oc, od, kV, doc, pm, an, cdv, ct, osl, rfl, lk, hcd⟩ := F.ex
  exact fn_of lk hcd S len fun A outer s H vs Q E hr hsp => hbody cdv A outer s H vs Q E hr hsp
end
theorem zn_hot {X : Cx} {a : Addr} {oe : Obj} {cls : Value} {d : Option Addr} {pn : List (Addr × Obj)} (hz : L2N.Zn cls d oe) (hf : ∃ vs, oe.data = .fields vs) : Hot1 (X.suite a ((a, oe) :: pn)).A (a, oe) := by
  obtain ⟨vs, hv⟩ := hf
  exact ⟨rfl, vs, hv, hz.2.2 vs hv⟩
section
variable {X : Cx} {CX : CXT} {k : Nat} {f : Addr} {fd : FuncData} {ps : List Str} {sp : SpE} {E : L2.St → XK} {x : Str} {q pos : Pos} {e : Expr} {es : List Expr} {t : TA}
theorem pe_callE {p : Addr × Obj} {cls : Value} {d : Option Addr} (F : FnE X.prog X.w X.K X.mg X.base CX k f fd ps sp) (hr : RoomH k X.A) (hot : Hot1 X.A p) (hp : p ∈ X.pn) (hz : Zc cls d p.2) (hg : Gl X x) (hm : X.mg x = some (.ref f)) (hk : PySem.W.keepIn X.K (.ref f) = true) (hb : Binds X.K fd ps []) (hx : ∀ σ, PassesAt CX X σ (E σ))
    (ha : PA X (e :: es) t) (hdb : (x == ("__debug__" : Str)) = false := by decide) (he : starEach (e :: es) X.env = (false, eval e X.env) :: starEach es X.env := by rfl) (hpl : (backTo pos (starEach es X.env)).any (·.1) = false := by rfl) :
    PE X (.Call (.Name x q) (e :: es) [] pos) (tCallS (sp p.1 cls d) E t) := by
  refine ⟨fun pins s σ H Q I h => ?_⟩
  refine wpAny_Call_Name_kw (ld_glob I hg hm ?_ hdb)
  refine PySem.W.callWith_K (h₀ := X.base) I.ok.mod.kin hk (thn (ha.run pos pins s σ H _ I h) fun us s1 ⟨vs, H1, I1, r, q⟩ => ⟨I1.kIn, ?_⟩) he hpl
  have hl : us.length = ps.length := by rw [← r.length]; exact F.len _ _ _ _ _ _ _ q
  have b := hb s1 us I1.kIn (by rw [List.append_nil]; exact hl)
  rw [List.append_nil] at b
  have P1 := I1.pin p (List.mem_append_left _ hp)
  have hpin : PinOk X.stack H1 s1 p := ⟨P1.1, P1.2.1, fun hm => (List.mem_cons.mp (I1.stkSub p.1 hm)).elim P1.2.2.1 P1.2.2.2.1, P1.2.2.2.2⟩
  refine wpAny_call (codeAny_mono (F.run X.A X.stack s1 H1 ⟨us, []⟩ us vs Q (E σ) p cls d hr hot hz hpin I1.env0 b r q) fun r s' hq => ?_)
  cases r with
  | error e => exact hx σ pins H1 s1 e s' I1 hq
  | ok fl =>
    cases fl with
    | ret u => exact I1.after hq
    | next => exact False.elim hq
    | brk => exact False.elim hq
    | cont => exact False.elim hq
end
/-- isinstance of the error that is handled -/
theorem call_isP {X : Cx} {D : Addr} {p : Addr × Obj} (C : ExcC X.K D) (hp : p ∈ X.pn) (hz : Zc (.ref D) none p.2) (hf : ∃ vs, p.2.data = .fields vs) : CallR X (.builtin "isinstance") (rIsE X.K D p.1) := by
  intro pins s σ H xs us Q I r h
  obtain ⟨c, cv, b, rfl, hcv, e, q⟩ := h
  cases r with
  | cons rx rr =>
    cases rr with
    | cons rt rr =>
      cases rr
      cases rx
      have ec := hcv _ rt
      subst ec
      obtain ⟨hget, _⟩ := I.pin p (List.mem_append_left _ hp)
      obtain ⟨vs, hv⟩ := hf
      have J : PySem.W.InstAt s.heap p.1 p.2 D none := by
        obtain ⟨a, oc, od, oda, osl⟩ := p
        obtain ⟨h1, h2⟩ := hz
        dsimp only at h1 h2 hv
        subst h1 h2 hv
        exact ⟨hget, rfl, rfl, trivial⟩
      exact PySem.W.kia_one (PySem.W.handS_kitx_exc C.hg C.hk C.hs C.hd C.ha C.hn C.ht C.hm) I.kIn J e (fun z => nomatch z) fun tk => ⟨.bl b, H, I.kept (t' := tk) fun _ _ z => z, rfl, q⟩
end NL

set_option maxHeartbeats 2000000
namespace NL
open PySem PySem.Spec PyProof.Rows L2 L2H HotX
/-! ### an error with fields, made where nothing is handled: its context is None -/
theorem mk_oexN {X : Cx} {CX : CXT} {x : Str} {C fI : Addr} {k : Nat} {fd : FuncData} {ps : List Str} {sp : Sp} {a0 : Expr} {as : List Expr} {ta : TA} {p pos : Pos}
    (T : OexC X.K C) (iC : PySem.W.findIn X.K (.ref C) "__init__" = some (some (.ref fI))) (tI : PySem.W.typeIn X.K (.ref fI) = some (.type "function"))
    (F1 : FnOk X.prog X.w X.K X.mg X.base CX k fI fd ps sp) (hr : Room (k + 1) X.A) (hb : Binds X.K fd ps []) (hx : Passes CX X (fun _ _ _ => False)) (hg : Gl X x) (hm : X.mg x = some (.ref C)) (ha : PA X (a0 :: as) ta)
    (hdb : (x == ("__debug__" : Str)) = false := by decide) (hst : starEach (a0 :: as) X.env = (false, eval a0 X.env) :: starEach as X.env := by rfl) (hpl : (backTo pos (starEach as X.env)).any (·.1) = false := by rfl) :
    L2N.PMk X (.Call (.Name x p) (a0 :: as) [] pos) (tMkO C sp [] ta) := fun pins s σ H Q I h => by
  obtain ⟨cn, cq, cN, cb, cm, c1, c2, c3, c4, c5, j0, j1, j2, j3, j5, hC, hcm⟩ := T.cls
  refine wpAny_Call_Name_kw (ld_glob I hg hm (PySem.W.callWith_K (h₀ := X.base) I.ok.mod.kin T.kC (thn (ha.run pos pins s σ H _ I h) fun us sA ⟨vs, HA, IA, rA, hz, qA⟩ => ⟨IA.kIn, ?_⟩) hst hpl) hdb)
  show wpAny _ _ (call (.ref C) us) _ _ _
  obtain ⟨hp, gs, dr, tk, os⟩ := sA
  generalize hn0 : hp.objs.size = n0
  have big1 : hp.objs.size ≤ n0 + 1 := by omega
  generalize hh2 : (hp.push (PySem.W.kdv_tup us)).push (PySem.HandSPX.excO C n0) = h2
  have kk : ∀ b o, hp.get? b = some o → h2.get? b = some o := fun b o e => by
    rw [← hh2]
    exact Heap.get?_push_of_some _ (Heap.get?_push_of_some _ e)
  have hget : h2.get? (n0 + 1) = some (PySem.HandSPX.excO C n0) := by
    rw [← hh2, ← hn0]
    heap_get
  have IB : Inv X pins σ (upd HA (n0 + 1) (exo (n0 + 1) C none)) ⟨h2, gs, dr, tk, os⟩ := IA.laid (t' := tk) (a := n0 + 1) (o := exo (n0 + 1) C none) (h' := h2) kk big1 (exo_ok hget)
  have qB := qA (n0 + 1) (IA.hok.fresh big1)
  rw [List.append_nil] at qB
  have rB : Vals (V.ref (n0 + 1) :: vs) (Value.ref (n0 + 1) :: us) := .cons rfl rA
  have lB : (Value.ref (n0 + 1) :: us ++ []).length = ps.length := by
    rw [List.append_nil, ← rB.length]
    exact F1.len _ _ _ _ qB
  have bB := hb _ (Value.ref (n0 + 1) :: us) IB.kIn lB
  rw [List.append_nil] at bB
  have lus : us.length ≤ sizeLine := by
    rw [← Paired.length rA, sizeLine_eq]
    omega
  have main := F1.run _ X.stack _ _ ⟨Value.ref (n0 + 1) :: us, []⟩ (Value.ref (n0 + 1) :: us) _ _ (fun _ _ _ => False) (hr.make C us []) (IB.env0.make C us []) bB rB qB
  have ext : ∀ Y, PySem.HandSPX.refsVE cm = true → cm.contains (.type Y) = ([Value.type "ValueError", .type "Exception", .type "BaseException", .type "object"] : List Value).contains (.type Y) := fun Y h => PySem.HandSPX.refsVE_contains Y cm h
  subst hh2
  subst hn0
  refine wpAny_call (PySem.HandSPX.call_own F.excBase_ValueError (fun Y => ext Y hcm) (IA.kIn _ _ hC) (PySem.W.looks_findIn IA.kIn iC) (fun self => PySem.W.bind_fn IA.kIn self tI) lus (codeAny_mono main fun r sE hE => ?_))
  match r, hE with
  | .error er, hE => exact hx pins σ _ _ er sE IB hE
  | .ok .next, hE => exact False.elim hE
  | .ok .brk, hE => exact False.elim hE
  | .ok .cont, hE => exact False.elim hE
  | .ok (.ret u), ⟨v, HE, osE, bareE, unE, hokE, rv, ev, d, fs, ea, ed, hd1, qE⟩ =>
    subst ev
    obtain ⟨hE, gE, dE, tE, os'⟩ := sE
    obtain ⟨t0, G, J, kG, ge, hoe, na⟩ := mk_end0 (d2 := dE) (t2 := tE) IA big1 kk unE hokE osE bareE ea ed hd1
    exact ⟨rv, _, _, _, ⟨G, gE, dE, tE, os'⟩, _, .ref C, some d, rfl, J, kG, ge, hoe, ⟨rfl, rfl, fun vs hv => by cases hv; rfl⟩, rfl, rfl, na, rfl, bareE, raises_own T.exC T.tyC, qE⟩
/-- the class's __init__, that stores two fields -/
def spInit2 (K : PySem.W.Frag) (C : Addr) (f1 f2 : Str) : Sp := fun vs H Q _ => ∃ (a : Addr) (u v : V), vs = [.ref a, u, v] ∧ H a = some (exo a C none) ∧
  ∀ d H', H d = none → H' a = some (exo a C (some d)) → H' d = some (exd d [(f2, v), (f1, u)]) → (∀ b o, b ≠ a → H b = some o → H' b = some o) → Q .non H'
/-- an error of the class C is let out, with these two fields -/
abbrev Bad (C : Addr) (f1 f2 : Str) (H : Hp) (E : XK) (u v : V) : Prop := ∀ d H', Same H H' → H' d = some (.xd [(f2, v), (f1, u)]) → E (.ref C) (some d) H'
theorem Bad.same {C : Addr} {f1 f2 : Str} {H H' : Hp} {E : XK} {u v : V} (b : Bad C f1 f2 H E u v) (s : Same H H') : Bad C f1 f2 H' E u v := fun d H2 t e => b d H2 (s.trans t) e
theorem bad_go {K : PySem.W.Frag} {C : Addr} {f1 f2 : Str} {H : Hp} {E : XK} {u v : V} (b : Bad C f1 f2 H E u v) : ∀ a, H a = none → spInit2 K C f1 f2 (.ref a :: ([u, v] ++ [])) (upd H a (exo a C none))
    (fun r H2 => r = .non ∧ ∃ (d : Addr) (fs : List (Str × V)), H2 a = some (exo a C (some d)) ∧ H2 d = some (exd d fs) ∧ H d = none ∧ E (.ref C) (some d) (upd (del H2 a) d (.xd fs))) (fun _ _ _ => False) := fun a ha => by
  refine ⟨a, u, v, rfl, upd_same, fun d H' hd e1 e2 fr => ?_⟩
  have hda : d ≠ a := fun e => by
    rw [e, upd_same] at hd
    cases hd
  have hd0 : H d = none := by
    rw [upd_ne hda] at hd
    exact hd
  refine ⟨rfl, d, _, e1, e2, hd0, b d _ (fun c o ec => ?_) upd_same⟩
  have n1 : c ≠ a := ne_of_none ec ha
  rw [upd_ne (ne_of_none ec hd0), del_ne n1]
  exact fr c o n1 (by rw [upd_ne n1]; exact ec)
/-- isinstance of the error that is handled, an error with a dict -/
theorem call_isD {X : Cx} {D dd : Addr} {p : Addr × Obj} (C : ExcC X.K D) (hi : PySem.W.isClsIn X.K D = true) (hp : p ∈ X.pn) (hz : Zc (.ref D) (some dd) p.2) (hf : ∃ vs, p.2.data = .fields vs) :
    CallR X (.builtin "isinstance") (fun xs H Q => (∃ fs, H dd = some (.xd fs)) ∧ rIsE X.K D p.1 xs H Q) := by
  intro pins s σ H xs us Q I r h
  obtain ⟨⟨fs, hfs⟩, c, cv, b, rfl, hcv, e, q⟩ := h
  match r with
  | .cons rx (.cons rt .nil) =>
    cases rx
    have ec := hcv _ rt
    subst ec
    have hget := (I.pin p (List.mem_append_left _ hp)).1
    obtain ⟨vs, hv⟩ := hf
    have hx : ObjOk X.prog X.w H s.heap dd (.xd fs) := I.hok dd _ hfs
    obtain ⟨mA, hns, -⟩ := hx
    obtain ⟨od, ho, -⟩ := lookIn_ns hns
    have J : PySem.W.InstAt s.heap p.1 p.2 D (some od) := by
      obtain ⟨a, oc, od', oda, osl⟩ := p
      obtain ⟨z1, z2⟩ := hz
      dsimp only at z1 z2 hv
      subst z1 z2 hv
      exact ⟨hget, rfl, rfl, ho⟩
    exact PySem.W.kia_one (PySem.W.kitx_exc (show (PySem.W.clsIn X.K D).isSome = true from hi) C.hg C.hk C.hs C.ha C.hn C.ht C.hm) I.kIn J e (fun z => nomatch z) fun tk => ⟨.bl b, H, I.kept (t' := tk) fun _ _ z => z, rfl, q⟩
/-- a def that is called where an error is handled -/
theorem okH {P : Program} {w : World} {K : PySem.W.Frag} {mg : Str → Option Value} {base : Heap} {x qual : Str} {st : Stmt} {f : Addr} {fd : FuncData} {N ps : List Str} {k : Nat} {sp : Sp} (Fd : L2.Fun K x qual st f fd) (S : FnScope N ps (defScope st)) (len : ∀ vs H Q E, sp vs H Q E → vs.length = ps.length)
    (hbody : ∀ (cdv : Value) (A : Around) (outer : List Env) (s : Shared) (H : Hp) (vs : List V) (Q : VK) (E : XK) (p : Addr × Obj), Hot1 A p → RoomH k (A.deeper (envOfC qual (defScope st) s.heap.objs.size f cdv)) → sp vs H Q E →
      ∃ t, PSs (cxH CX0 P w K mg base N qual (defScope st) f cdv A outer s H E p) (defBody st) t ∧ t { nx := fun _ H' => Q .non H', rt := Q } (L2.start N vs) H) : FnH P w K mg base CX0 (k + 1) f fd ps sp := by
  obtain ⟨oc, od, kV, doc, pm, an, cdv, ct, osl, rfl, lk, hcd⟩ := Fd.ex
  exact fn_ofH lk hcd S len fun A outer s H vs Q E p hot hr hsp => hbody cdv A outer s H vs Q E p hot hr hsp
end NL

namespace NL
open PySem PySem.Spec PyProof.Rows L2

/-! ### frames: what stays while the list of draws at d is used up -/
structure Go (d : Addr) (H H' : Hp) : Prop where
  fr : ∀ b o, b ≠ d → H b = some o → H' b = some o
  dr : ∃ ns : List Int, H' d = some (.lst (ns.map V.int))
abbrev Dr (H : Hp) (d : Addr) : Prop := ∃ ns : List Int, H d = some (.lst (ns.map V.int))
theorem Go.refl {d : Addr} {H : Hp} (h : Dr H d) : Go d H H := ⟨fun _ _ _ e => e, h⟩
theorem Go.trans {d : Addr} {H H1 H2 : Hp} (a : Go d H H1) (b : Go d H1 H2) : Go d H H2 := ⟨fun c o n e => b.fr c o n (a.fr c o n e), b.dr⟩
theorem Go.new {d p : Addr} {H : Hp} {o : HO} (h : Dr H d) (hp : H p = none) : Go d H (upd H p o) := by
  obtain ⟨ns, e⟩ := h
  have n : d ≠ p := ne_of_none e hp
  exact ⟨fun b u _ q => by rw [upd_ne (ne_of_none q hp)]; exact q, ⟨ns, by rw [upd_ne n]; exact e⟩⟩
theorem Go.put {d : Addr} {H : Hp} (ns : List Int) : Go d H (upd H d (.lst (ns.map V.int))) := ⟨fun b u n q => by rw [upd_ne n]; exact q, ⟨ns, upd_same⟩⟩
theorem Go.same {d : Addr} {H H' : Hp} (h : Dr H d) (s : Same H H') : Go d H H' := ⟨fun b o _ e => s b o e, by obtain ⟨ns, e⟩ := h; exact ⟨ns, s _ _ e⟩⟩
theorem Go.tup {d a : Addr} {H H' : Hp} {xs : List V} (g : Go d H H') (h : Dr H d) (e : H a = some (.tup xs)) : H' a = some (.tup xs) := by
  refine g.fr a _ ?_ e
  rintro rfl
  obtain ⟨ns, q⟩ := h
  rw [e] at q; cases q
theorem same_new {H : Hp} {p : Addr} (h : H p = none) (o : HO) : Same H (upd H p o) := fun b u q => by rw [upd_ne (ne_of_none q h)]; exact q
/-- all tuples stay -/
def Tp (H H' : Hp) : Prop := ∀ a xs, H a = some (.tup xs) → H' a = some (.tup xs)
theorem Go.tp {d : Addr} {H H' : Hp} (g : Go d H H') (h : Dr H d) : Tp H H' := fun _ _ e => g.tup h e
theorem Tp.same {H H' : Hp} (s : Same H H') : Tp H H' := fun _ _ e => s _ _ e
theorem Tp.trans {H H1 H2 : Hp} (a : Tp H H1) (b : Tp H1 H2) : Tp H H2 := fun x y e => b x y (a x y e)
theorem Tp.refl {H : Hp} : Tp H H := fun _ _ e => e
/-- a list that stays readable whatever is drawn at d -/
def Keep (K : PySem.W.Frag) (d : Addr) (H : Hp) (a : Addr) (xs : List V) : Prop := ∀ H', (∀ b o, b ≠ d → H b = some o → H' b = some o) → SqL K H' a xs
theorem Keep.now {K : PySem.W.Frag} {d a : Addr} {H : Hp} {xs : List V} (k : Keep K d H a xs) : SqL K H a xs := k H fun _ _ _ e => e
theorem Keep.go {K : PySem.W.Frag} {d a : Addr} {H H' : Hp} {xs : List V} (k : Keep K d H a xs) (g : Go d H H') : Keep K d H' a xs := fun H2 f => k H2 fun b o n e => f b o n (g.fr b o n e)
theorem Keep.of {K : PySem.W.Frag} {d a : Addr} {H : Hp} {xs : List V} (n : a ≠ d) (h : H a = some (.lst xs)) : Keep K d H a xs := fun H' f => .inl (.inl (f a _ n h))
/-- what was read ahead of the draws' list stays -/
theorem Keep.old {K : PySem.W.Frag} {d a : Addr} {H0 H : Hp} {xs : List V} (h : SqL K H0 a xs) (hd : H0 d = none) (f : ∀ b o, H0 b = some o → H b = some o) : Keep K d H a xs := fun H' g => by
  rcases h with (h | ⟨o, h⟩) | h
  · exact .inl (.inl (g a _ (ne_of_none h hd) (f _ _ h)))
  · exact .inl (.inr ⟨o, g a _ (ne_of_none h hd) (f _ _ h)⟩)
  · exact .inr h

/-! ### rules whose written part is named (in a comprehension) -/
theorem ix_tupK {X : Cx} {K : PySem.W.Frag} (h : X.K = K) : IxR X (rIxT K) := by subst h; exact ix_tup
theorem ix_listK {X : Cx} {K : PySem.W.Frag} (h : X.K = K) : IxR X (rIxL K) := by subst h; exact ix_list
def rTupOf (K : PySem.W.Frag) : List V → Hp → VK → Prop := fun xs H Q => ∃ p ys, xs = [.ref p] ∧ ((SqL K H p ys ∧ ∀ l, H l = none → Q (.ref l) (upd H l (.tup ys))) ∨ (SqT K H p ys ∧ Q (.ref p) H))
theorem call_tuple_ofK {X : Cx} {K : PySem.W.Frag} (h : X.K = K) : CallR X (.type "tuple") (rTupOf K) := by subst h; exact call_tuple_of
/-! ### texts and words -/
/-- signs a to z alone -/
def Wd (z : Str) : Prop := ∀ c ∈ z.cps.toList, 97 ≤ c ∧ c ≤ 122
instance (z : Str) : Decidable (Wd z) := by unfold Wd; infer_instance
def res : List Str := ["true", "false", "add", "sub", "mul", "div", "mod", "min", "max", "abs", "if", "less", "equal", "not", "all", "any"]
theorem app_list (a b : Str) : (a ++ b).cps.toList = a.cps.toList ++ b.cps.toList := by
  show (a.cps ++ b.cps).toList = _
  simp
theorem len_list (a : Str) : a.length = a.cps.toList.length := by
  show a.cps.size = _
  simp
theorem len_app (a b : Str) : (a ++ b).length = a.length + b.length := by
  rw [len_list, app_list, List.length_append, ← len_list, ← len_list]
theorem str_ext {a b : Str} (h : a.cps.toList = b.cps.toList) : a = b := by
  cases a with | mk x => cases b with | mk y =>
  have : x = y := Array.toList_inj.mp h
  rw [this]
theorem Wd.app {a b : Str} (ha : Wd a) (hb : Wd b) : Wd (a ++ b) := fun c hc => by
  rw [app_list] at hc
  rcases List.mem_append.mp hc with h | h
  · exact ha c h
  · exact hb c h
structure Nam (z : Str) : Prop where
  wd : Wd z
  len : 0 < z.length ∧ z.length ≤ 200
  nr : z ∉ res
structure Nm (z : Str) : Prop where
  wd : Wd z
  len : 0 < z.length ∧ z.length ≤ 150

/-! ### lists at an index -/
theorem atI_mem {α : Type} {xs : List α} {i : Int} (h0 : 0 ≤ i) (h1 : i < xs.length) : ∃ v, atI xs i = some v ∧ v ∈ xs := by
  have hk : i.toNat < xs.length := by omega
  have ek : i = ((i.toNat : Nat) : Int) := by omega
  have q : atI xs ((i.toNat : Nat) : Int) = some xs[i.toNat] := atI_nat (List.getElem?_eq_getElem hk)
  rw [← ek] at q
  exact ⟨_, q, List.getElem_mem hk⟩
theorem atI_map {α β : Type} {f : α → β} {xs : List α} {i : Int} (h0 : 0 ≤ i) (h1 : i < xs.length) : ∃ v, atI (xs.map f) i = some (f v) ∧ v ∈ xs := by
  obtain ⟨v, h, m⟩ := atI_mem (xs := xs.map f) h0 (by rw [List.length_map]; exact h1)
  obtain ⟨u, hu, rfl⟩ := List.mem_map.mp m
  exact ⟨u, h, hu⟩
theorem sqd {K : PySem.W.Frag} {H : Hp} {a : Addr} {xs : List V} (h : H a = some (.lst xs)) : SqL K H a xs := .inl (.inl h)
theorem sqt {K : PySem.W.Frag} {H : Hp} {a : Addr} {xs : List V} (h : H a = some (.tup xs)) : SqT K H a xs := .inl (.inl h)
theorem int_eq {i j : Int} (h : decide (V.int i = V.int j) = true) : i = j := V.int.inj (of_decide_eq_true h)
theorem int_ne {i j : Int} (h : ¬ decide (V.int i = V.int j) = true) : i ≠ j := fun e => h (decide_eq_true (by rw [e]))
section
variable {P : Program} {w : World} {K : PySem.W.Frag} {mg : Str → Option Value} {base : Heap}
/-! ### _law_take -/
def spTake : Sp := fun vs H Q _ => ∃ (d : Addr) (m : Int), vs = [.ref d, .int m] ∧ Dr H d ∧ 0 < m ∧ ∀ r H', Go d H H' → 0 ≤ r → r < m → Q (.int r) H'
theorem ok_law_take (T : Txt K mg) : FnOk P w K mg base CX0 1 T.a_law_take T.d_law_take P_law_take spTake := by
  refine T.F_law_take.ok sc_law_take (fun vs H Q E h => ?_) (fun cdv A outer s H vs Q E hr h => ?_)
  · obtain ⟨d, m, rfl, _⟩ := h
    rfl
  obtain ⟨d, m, rfl, hD, hm, q⟩ := h
  refine ⟨_, (pss_cons (ps_if (pt_cmpR op_eq (pe_callB call_len_seq (by rfl) T.z_len PySem.boot_len (pa_cons (pv 0) pa_nil)) pe_int (nomark _))
    (pss_one (ps_ret pe_int))
    pss_nil)
    (pss_one (ps_ret (pe_op op_mod (pe_callTy call_int1 (by rfl) T.z_int (by decide +kernel) (pa_cons (pe_bm0 PySem.F.plainAttrs_list PySem.F.slot_list_pop PySem.F.type_list_pop mt_pop (pv 0)) pa_nil)) (pv 1))))), ?_⟩
  obtain ⟨ns, hd⟩ := hD
  refine ⟨_, rfl, _, _, rfl, .inl (sqd hd), rfl, _, rfl, ?_⟩
  refine ite2 (fun c => ?_) (fun c => ?_)
  · exact q 0 H (Go.refl ⟨ns, hd⟩) (Int.le_refl 0) hm
  · have hn := int_ne c
    rw [List.length_map] at hn
    have hz : ns ≠ [] := by
      rintro rfl
      exact hn rfl
    have hl : 0 < ns.length := List.length_pos_iff.mpr hz
    have he : (ns.map V.int)[(ns.map V.int).length - 1]? = some (.int ns[ns.length - 1]) := by
      rw [List.length_map, List.getElem?_map, List.getElem?_eq_getElem (by omega)]
      rfl
    refine ⟨_, rfl, .inl ⟨rfl, _, sqd hd⟩, _, _, _, rfl, rfl, hd, he, .inl ⟨_, rfl, ?_⟩⟩
    refine ⟨_, rfl, _, _, rfl, rfl, hm, ?_⟩
    refine q _ _ ?_ (Int.emod_nonneg _ (by omega)) (Int.emod_lt_of_pos _ hm)
    rw [← List.map_dropLast]
    exact Go.put _
end
end NL

namespace NL
open PySem PySem.Spec PyProof.Rows L2
/-! ### a text times a number -/
theorem op_mulS {X : Cx} : OpR X (binaryOp .Mult) (fun x y H Q => ∃ (z : Str) (k : Int), x = .str z ∧ y = .int k ∧ z.length ≤ 16 ∧ 0 ≤ k ∧ k ≤ 1000 ∧ ((Txt.mul z k).length = z.length * k.toNat → Q (.str (Txt.mul z k)) H)) := by
  intro pins s σ H x y v u Q I rx ry h
  obtain ⟨z, k, rfl, rfl, hz, h0, h1, q⟩ := h
  obtain ⟨t, rfl⟩ := rx
  obtain ⟨t', rfl⟩ := ry
  refine PySem.W.KXi.mul rfl hz (by omega) (by omega) fun t' tk _ hl => ⟨.str (Txt.mul z k), H, I.tok _, ⟨_, rfl⟩, q ?_⟩
  have e := hl h0
  have e2 : k = ((k.toNat : Nat) : Int) := by omega
  rw [e2] at e
  have : ((z.length : Int) * ((k.toNat : Nat) : Int)) = ((z.length * k.toNat : Nat) : Int) := by push_cast; rfl
  rw [this] at e
  have e3 := Int.ofNat.inj e
  rw [← e2] at e3
  exact e3
def abc : Str := "abcdefghijklmnopqrstuvwxyz"
theorem abc_at {i : Int} (h0 : 0 ≤ i) (h1 : i < 26) : ∃ c, atI abc.cps.toList i = some c ∧ 97 ≤ c ∧ c ≤ 122 := by
  have hl : abc.cps.toList.length = 26 := by decide +kernel
  obtain ⟨c, h, m⟩ := atI_mem (xs := abc.cps.toList) h0 (by rw [hl]; exact h1)
  have hall : ∀ c ∈ abc.cps.toList, 97 ≤ c ∧ c ≤ 122 := by decide +kernel
  exact ⟨c, h, hall c m⟩
section
variable {P : Program} {w : World} {K : PySem.W.Frag} {mg : Str → Option Value} {base : Heap}
/-! ### _law_cell -/
def spCell (K : PySem.W.Frag) : Sp := fun vs H Q _ => ∃ (a d : Addr) (ns : List Int), vs = [.ref a, .ref d] ∧ Keep K d H a (ns.map V.int) ∧ Dr H d ∧ ∀ r H', Go d H H' → (r = 0 ∨ r ∈ ns) → Q (.int r) H'
theorem ok_law_cell (T : Txt K mg) : FnOk P w K mg base CX0 2 T.a_law_cell T.d_law_cell P_law_cell (spCell K) := by
  have G_law_take := ok_law_take (P := P) (w := w) (base := base) T
  refine T.F_law_cell.ok sc_law_cell (fun vs H Q E h => ?_) (fun cdv A outer s H vs Q E hr h => ?_)
  · obtain ⟨a, d, ns, rfl, _⟩ := h
    rfl
  obtain ⟨a, d, ns, rfl, hk, hD, q⟩ := h
  refine ⟨_, (pss_cons (ps_if (pt_cmpR op_eq (pe_callB call_len_seq (by rfl) T.z_len PySem.boot_len (pa_cons (pv 0) pa_nil)) pe_int (nomark _))
    (pss_one (ps_ret pe_int))
    pss_nil)
    (pss_one (ps_ret (pe_callTy call_int1 (by rfl) T.z_int (by decide +kernel) (pa_cons (pe_ix ix_list (pv 0) (pe_call G_law_take (hr.mono (by omega)) (by rfl) T.m_law_take T.F_law_take.kp T.b_law_take .nil pass0 (pa_cons (pv 1) (pa_cons (pe_callB call_len_seq (by rfl) T.z_len PySem.boot_len (pa_cons (pv 0) pa_nil)) pa_nil))) (fun _ _ => rfl)) pa_nil))))), ?_⟩
  refine ⟨_, rfl, _, _, rfl, .inl hk.now, rfl, _, rfl, ?_⟩
  refine ite2 (fun c => ?_) (fun c => ?_)
  · exact q 0 H (Go.refl hD) (.inl rfl)
  · have hn := int_ne c
    rw [List.length_map] at hn
    refine ⟨_, rfl, _, rfl, _, rfl, _, _, rfl, .inl hk.now, d, _, rfl, hD, by rw [List.length_map]; omega, fun r H1 g h0 h1 => ?_⟩
    rw [List.length_map] at h1
    obtain ⟨v, hv, hm⟩ := atI_map (f := V.int) h0 h1
    exact ⟨_, _, _, _, rfl, rfl, (hk.go g).now, hv, .inl ⟨_, rfl, q v H1 g (.inr hm)⟩⟩
/-! ### _law_word -/
def spWord : Sp := fun vs H Q _ => ∃ i : Int, vs = [.int i] ∧ ∀ z : Str, Wd z → z.length ≤ 60 → (1 ≤ i → 0 < z.length) → Q (.str z) H
theorem ok_law_word (T : Txt K mg) : FnOk P w K mg base CX0 1 T.a_law_word T.d_law_word P_law_word spWord := by
  refine T.F_law_word.ok sc_law_word (fun vs H Q E h => ?_) (fun cdv A outer s H vs Q E hr h => ?_)
  · obtain ⟨i, rfl, _⟩ := h
    rfl
  obtain ⟨i0, rfl, q⟩ := h
  refine ⟨_, (pss_cons (ps_set (i := 1) sc_law_word.nd rfl (Or.inl rfl) pe_str)
    (pss_cons (ps_for PassesOwn.never rfl (pi_range1 (by rfl) T.z_range (pa_cons pe_int pa_nil)) (pg_name (i := 2) sc_law_word.nd rfl (Or.inl rfl))
    (pss_cons (ps_if (pt_cmpR op_lt (pv 0) pe_int (nomark _))
    (pss_one ps_break)
    pss_nil)
    (pss_cons (ps_set (i := 1) sc_law_word.nd rfl (Or.inl rfl) (pe_op op_add_str (pe_ix ix_str pe_str (pe_op op_mod (pe_callTy call_int1 (by rfl) T.z_int (by decide +kernel) (pa_cons (pe_op op_sub (pv 0) pe_int) pa_nil)) pe_int) (fun _ _ => rfl)) (pv 1)))
    (pss_one (ps_set (i := 0) sc_law_word.nd rfl (Or.inl rfl) (pe_op op_fdiv (pe_op op_sub (pv 0) pe_int) pe_int))))))
    (pss_one (ps_ret (pv 1))))), ?_⟩
  refine ⟨60, rfl, by decide, by decide, for_range (lo := 0) (n := 60) (fun j σ H' => ∃ (i : Int) (z : Str) (y : Option V), σ = [some (.int i), some (.str z), y] ∧ H' = H ∧ Wd z ∧ z.length ≤ j ∧ (j = 0 → i = i0) ∧ (0 < j → 0 < z.length)) ?_ ?_ ?_⟩
  · exact ⟨i0, _, none, rfl, rfl, (by decide +kernel), (by decide +kernel), fun _ => rfl, fun h => absurd h (by decide)⟩
  · rintro j σ H' hj ⟨i, z, y, rfl, rfl, hw, hz, e0, e1⟩
    refine ⟨_, rfl, _, _, rfl, rfl, _, rfl, ?_⟩
    refine ite2 (fun c => ?_) (fun c => ?_)
    · have hi : i < 1 := of_decide_eq_true c
      exact ⟨_, rfl, q z hw (by omega) fun h1 => e1 (by
        rcases Nat.eq_zero_or_pos j with e | e
        · have := e0 e
          omega
        · exact e)⟩
    · obtain ⟨ch, hc, hc1⟩ := abc_at (Int.emod_nonneg (i - 1) (by decide : (26 : Int) ≠ 0)) (Int.emod_lt_of_pos (i - 1) (by decide))
      have hw1 : Wd (⟨#[ch]⟩ : Str) := fun c h => by
        have : c = ch := by simpa using h
        rw [this]
        exact hc1
      have hl : ((⟨#[ch]⟩ : Str) ++ z).length = 1 + z.length := by rw [len_app] <;> rfl
      refine ⟨_, rfl, _, _, rfl, rfl, .inl ⟨_, rfl, _, _, rfl, rfl, (by show (0 : Int) < 26; decide), _, _, ch, rfl, rfl, (by decide +kernel), hc, _, rfl, _, _, rfl, rfl, ?_, ?_⟩⟩
      · have : (⟨#[ch]⟩ : Str).length = 1 := rfl
        rw [this]
        exact Nat.le_of_lt (small1000 (by omega))
      · refine ⟨_, rfl, _, _, rfl, rfl, _, _, rfl, rfl, ⟨by decide, by decide⟩, ?_⟩
        exact ⟨_, _, _, rfl, rfl, hw1.app hw, by rw [hl]; omega, fun h => absurd h (by omega), fun _ => by rw [hl]; omega⟩
  · rintro σ H' ⟨i, z, y, rfl, rfl, hw, hz, e0, e1⟩
    exact ⟨_, rfl, q z hw hz fun _ => e1 (by decide)⟩
end
end NL

namespace NL
open PySem PySem.Spec PyProof.Rows L2
section
variable {P : Program} {w : World} {K : PySem.W.Frag} {mg : Str → Option Value} {base : Heap}
/-! ### _law_some_word -/
theorem fold_wd {p : Nat → Prop} : ∀ (l : List (Array Nat)) (acc : Array Nat), (∀ c ∈ acc.toList, p c) → (∀ a ∈ l, ∀ c ∈ a.toList, p c) → ∀ c ∈ (l.foldl (· ++ ·) acc).toList, p c
  | [], acc, h, _, c, hc => h c hc
  | a :: r, acc, h, g, c, hc => by
    refine fold_wd r (acc ++ a) (fun c hc => ?_) (fun a ha => g a (List.mem_cons_of_mem _ ha)) c hc
    rw [Array.toList_append] at hc
    rcases List.mem_append.mp hc with h1 | h1
    · exact h c h1
    · exact g a List.mem_cons_self c h1
theorem mul_wd {z : Str} (h : Wd z) (k : Int) : Wd (Txt.mul z k) := by
  unfold Txt.mul
  split
  · decide
  · split
    · exact h
    · refine fold_wd _ _ (fun c hc => by simp at hc) fun a ha => ?_
      rw [(List.mem_replicate.mp ha).2]
      exact h
def spSomeWord : Sp := fun vs H Q _ => ∃ d : Addr, vs = [.ref d] ∧ Dr H d ∧ ∀ z H', Go d H H' → Nm z → Q (.str z) H'
theorem ok_law_some_word (T : Txt K mg) : FnOk P w K mg base CX0 2 T.a_law_some_word T.d_law_some_word P_law_some_word spSomeWord := by
  have G_law_take := ok_law_take (P := P) (w := w) (base := base) T
  have G_law_word := ok_law_word (P := P) (w := w) (base := base) T
  refine T.F_law_some_word.ok sc_law_some_word (fun vs H Q E h => ?_) (fun cdv A outer s H vs Q E hr h => ?_)
  · obtain ⟨d, rfl, _⟩ := h
    rfl
  obtain ⟨d, rfl, hD, q⟩ := h
  refine ⟨_, (pss_cons (ps_set (i := 1) sc_law_some_word.nd rfl (Or.inl rfl) (pe_call G_law_take (hr.mono (by omega)) (by rfl) T.m_law_take T.F_law_take.kp T.b_law_take .nil pass0 (pa_cons (pv 0) (pa_cons pe_int pa_nil))))
    (pss_cons (ps_if (pt_cmpR op_lt (pv 1) pe_int (nomark _))
    (pss_one (ps_ret (pe_call G_law_word (hr.mono (by omega)) (by rfl) T.m_law_word T.F_law_word.kp T.b_law_word .nil pass0 (pa_cons (pe_op op_add (pe_op op_add pe_int (pe_op op_mod (pv 1) pe_int)) (pe_op op_mul pe_int (pe_op op_mod (pe_op op_fdiv (pv 1) pe_int) pe_int))) pa_nil))))
    pss_nil)
    (pss_cons (ps_if (pt_cmpR op_lt (pv 1) pe_int (nomark _))
    (pss_one (ps_ret (pe_call G_law_word (hr.mono (by omega)) (by rfl) T.m_law_word T.F_law_word.kp T.b_law_word .nil pass0 (pa_cons (pe_op op_add pe_int (pe_call G_law_take (hr.mono (by omega)) (by rfl) T.m_law_take T.F_law_take.kp T.b_law_take .nil pass0 (pa_cons (pv 0) (pa_cons pe_int pa_nil)))) pa_nil))))
    pss_nil)
    (pss_cons (ps_if (pt_cmpR op_lt (pv 1) pe_int (nomark _))
    (pss_one (ps_ret (pe_op op_add_str (pe_op op_mulS pe_str (pe_op op_add pe_int (pe_op op_mod (pe_callTy call_int1 (by rfl) T.z_int (by decide +kernel) (pa_cons (pv 1) pa_nil)) pe_int))) (pe_call G_law_word (hr.mono (by omega)) (by rfl) T.m_law_word T.F_law_word.kp T.b_law_word .nil pass0 (pa_cons (pe_op op_add pe_int (pe_call G_law_take (hr.mono (by omega)) (by rfl) T.m_law_take T.F_law_take.kp T.b_law_take .nil pass0 (pa_cons (pv 0) (pa_cons pe_int pa_nil)))) pa_nil)))))
    pss_nil)
    (pss_cons (ps_set (i := 2) sc_law_some_word.nd rfl (Or.inl rfl) (pe_op op_add (pe_op op_mul pe_int (pe_call G_law_take (hr.mono (by omega)) (by rfl) T.m_law_take T.F_law_take.kp T.b_law_take .nil pass0 (pa_cons (pv 0) (pa_cons pe_int pa_nil)))) (pe_op op_mul pe_int (pe_call G_law_take (hr.mono (by omega)) (by rfl) T.m_law_take T.F_law_take.kp T.b_law_take .nil pass0 (pa_cons (pv 0) (pa_cons pe_int pa_nil))))))
    (C8.pss_cut (ps_if (pt_cmpR op_ge (pv 1) pe_int (nomark _))
    (pss_one (ps_set (i := 2) sc_law_some_word.nd rfl (Or.inl rfl) (pe_op op_mul (pv 2) (pe_op op_pow pe_int pe_int))))
    pss_nil)
    (pss_one (ps_ret (pe_call G_law_word (hr.mono (by omega)) (by rfl) T.m_law_word T.F_law_word.kp T.b_law_word .nil pass0 (pa_cons (pe_op op_add (pe_op op_add pe_int (pv 2)) (pe_call G_law_take (hr.mono (by omega)) (by rfl) T.m_law_take T.F_law_take.kp T.b_law_take .nil pass0 (pa_cons (pv 0) (pa_cons pe_int pa_nil)))) pa_nil)))))))))), ?_⟩
  -- number = take(draws, 1000)
  refine ⟨_, rfl, d, _, rfl, hD, (by decide), fun n H1 g1 n0 n1 => ?_⟩
  -- if number < 600
  refine ⟨_, rfl, _, _, rfl, rfl, _, rfl, ?_⟩
  refine ite2 (fun c => ?_) (fun c => ?_)
  · refine ⟨_, rfl, _, _, rfl, rfl, (by show (0 : Int) < 6; decide), _, _, rfl, rfl, _, rfl, _, _, rfl, rfl, ⟨by decide, by decide⟩, _, _, rfl, rfl, (by show (0 : Int) < 2; decide), _, _, rfl, rfl, .inl ⟨by decide, by decide⟩, _, _, rfl, rfl, _, rfl, fun z hw hl hp => ?_⟩
    have b1 := Int.emod_nonneg n (by decide : (6 : Int) ≠ 0)
    have b2 := Int.emod_nonneg (n / 100) (by decide : (2 : Int) ≠ 0)
    exact q z H1 g1 ⟨hw, hp (by omega), by omega⟩
  -- if number < 850
  refine ⟨_, rfl, _, _, rfl, rfl, _, rfl, ?_⟩
  refine ite2 (fun c => ?_) (fun c => ?_)
  · refine ⟨_, rfl, d, _, rfl, g1.dr, (by decide), fun r H2 g2 r0 r1 => ?_⟩
    refine ⟨_, _, rfl, rfl, _, rfl, fun z hw hl hp => ?_⟩
    exact q z H2 (g1.trans g2) ⟨hw, hp (by omega), by omega⟩
  -- if number < 875
  refine ⟨_, rfl, _, _, rfl, rfl, _, rfl, ?_⟩
  refine ite2 (fun c => ?_) (fun c => ?_)
  · have b1 := Int.emod_nonneg n (by decide : (6 : Int) ≠ 0)
    have b2 := Int.emod_lt_of_pos n (by decide : (0 : Int) < 6)
    refine ⟨_, rfl, .inl ⟨_, rfl, _, _, rfl, rfl, (by show (0 : Int) < 6; decide), _, _, rfl, rfl, _, _, rfl, rfl, (by decide +kernel), (by omega), (by omega), fun hm => ?_⟩⟩
    refine ⟨_, rfl, d, _, rfl, g1.dr, (by decide), fun r H2 g2 r0 r1 => ?_⟩
    refine ⟨_, _, rfl, rfl, _, rfl, fun z hw hl hp => ?_⟩
    have l12 : ("abcdefghijkl" : Str).length = 12 := by decide +kernel
    have w12 : Wd ("abcdefghijkl" : Str) := by decide +kernel
    rw [l12] at hm
    have hb : (1 + n % 6).toNat ≤ 6 := by omega
    have hp' := hp (by omega)
    refine ⟨_, _, rfl, rfl, ?_, q _ H2 (g1.trans g2) ⟨(mul_wd w12 _).app hw, ?_, ?_⟩⟩
    · rw [hm]
      exact Nat.le_of_lt (small1000 (by omega))
    · rw [len_app]; omega
    · rw [len_app, hm]; omega
  -- great = ..
  refine ⟨_, rfl, d, _, rfl, g1.dr, (by decide), fun r H2 g2 r0 r1 => ?_⟩
  refine ⟨_, _, rfl, rfl, .inl ⟨by decide, by decide⟩, ?_⟩
  refine ⟨_, rfl, d, _, rfl, g2.dr, (by decide), fun t H3 g3 t0 t1 => ?_⟩
  refine ⟨_, _, rfl, rfl, .inl ⟨by decide, by decide⟩, _, _, rfl, rfl, ?_⟩
  refine ⟨fun σ H4 => ∃ gr : Int, 0 ≤ gr ∧ σ = [some (.ref d), some (.int n), some (.int gr)] ∧ Go d H H4, ?_, ?_⟩
  · refine ⟨_, rfl, _, _, rfl, rfl, _, rfl, ?_⟩
    refine ite2 (fun c => ?_) (fun c => ?_)
    · refine ⟨_, rfl, _, _, rfl, rfl, ⟨by decide, by decide, by decide⟩, _, _, rfl, rfl, ?_, ?_⟩
      · left
        constructor <;> omega
      · refine ⟨_, ?_, rfl, (g1.trans g2).trans g3⟩
        have : (0 : Int) ≤ 10 ^ (Int.toNat 15) := by decide
        exact Int.mul_nonneg (by omega) this
    · exact ⟨_, by omega, rfl, (g1.trans g2).trans g3⟩
  · rintro σ H4 ⟨gr, hg, rfl, g4⟩
    refine ⟨_, rfl, _, _, rfl, rfl, _, rfl, d, _, rfl, g4.dr, (by decide), fun u H5 g5 u0 u1 => ?_⟩
    refine ⟨_, _, rfl, rfl, _, rfl, fun z hw hl hp => ?_⟩
    exact q z H5 (g4.trans g5) ⟨hw, hp (by omega), by omega⟩
/-! ### _law_reserved -/
def spReserved : Sp := fun vs H Q _ => vs = [] ∧ ∀ p H', Same H H' → H p = none → H' p = some (.lst (res.map V.str)) → Q (.ref p) H'
theorem ok_law_reserved (T : Txt K mg) : FnOk P w K mg base CX0 1 T.a_law_reserved T.d_law_reserved P_law_reserved spReserved := by
  refine T.F_law_reserved.ok sc_law_reserved (fun vs H Q E h => ?_) (fun cdv A outer s H vs Q E hr h => ?_)
  · obtain ⟨rfl, _⟩ := h
    rfl
  obtain ⟨rfl, q⟩ := h
  refine ⟨_, (pss_cons (ps_set (i := 0) sc_law_reserved.nd rfl (Or.inl rfl) (pe_lst (pa_cons pe_str (pa_cons pe_str (pa_cons pe_str (pa_cons pe_str (pa_cons pe_str (pa_cons pe_str (pa_cons pe_str (pa_cons pe_str (pa_cons pe_str (pa_cons pe_str pa_nil))))))))))))
    (pss_one (ps_ret (pe_op op_cat (pv 0) (pe_lst (pa_cons pe_str (pa_cons pe_str (pa_cons pe_str (pa_cons pe_str (pa_cons pe_str (pa_cons pe_str pa_nil))))))))))), ?_⟩
  refine ⟨(by decide), fun p hp => ?_⟩
  refine ⟨_, rfl, (by decide), fun p2 hp2 => ?_⟩
  have n12 : p ≠ p2 := ne_of_none upd_same hp2
  refine ⟨_, _, _, _, rfl, rfl, (by rw [upd_ne n12]; exact upd_same), upd_same, (by decide), fun p3 hp3 => ?_⟩
  refine q p3 _ ?_ ?_ ?_
  · exact (same_new hp _).trans ((same_new hp2 _).trans (same_new hp3 _))
  · exact ((same_new hp _).trans (same_new hp2 _)).free hp3
  · rw [upd_same]
    rfl
end
end NL

namespace NL
open PySem PySem.Spec PyProof.Rows L2
/-! ### the tree of an expression or a condition -/
inductive It where
  | num (n : Int)
  | name (x : Str)
  | lit (b : Bool)
  | un (w : Str) (a : It)
  | dm (w : Str) (a : It) (n : Int)
  | bin (w : Str) (a b : It)
  | tri (a b c : It)
  | grp (w : Str) (l : List It)
def bstr (b : Bool) : Str := if b then "true" else "false"
/-- the tree stands at v -/
inductive ItemIn (H : Hp) : It → V → Prop where
  | num {n a} : H a = some (.tup [.str "number", .int n]) → ItemIn H (.num n) (.ref a)
  | name {x a} : H a = some (.tup [.str "name", .str x]) → ItemIn H (.name x) (.ref a)
  | lit {b a} : H a = some (.tup [.str (bstr b)]) → ItemIn H (.lit b) (.ref a)
  | un {w i a x} : H a = some (.tup [.str w, x]) → ItemIn H i x → ItemIn H (.un w i) (.ref a)
  | dm {w i n a x} : H a = some (.tup [.str w, x, .int n]) → ItemIn H i x → ItemIn H (.dm w i n) (.ref a)
  | bin {w i j a x y} : H a = some (.tup [.str w, x, y]) → ItemIn H i x → ItemIn H j y → ItemIn H (.bin w i j) (.ref a)
  | tri {i j k a x y z} : H a = some (.tup [.str "if", x, y, z]) → ItemIn H i x → ItemIn H j y → ItemIn H k z → ItemIn H (.tri i j k) (.ref a)
  | grp {w l a b xs} : H a = some (.tup [.str w, .ref b]) → H b = some (.tup xs) → xs.length = l.length → (∀ (k : Nat) i x, l[k]? = some i → xs[k]? = some x → ItemIn H i x) → ItemIn H (.grp w l) (.ref a)
theorem ItemIn.mono {H H' : Hp} (t : Tp H H') {i : It} {v : V} (h : ItemIn H i v) : ItemIn H' i v := by
  induction h with
  | num e => exact .num (t _ _ e)
  | name e => exact .name (t _ _ e)
  | lit e => exact .lit (t _ _ e)
  | un e _ ih => exact .un (t _ _ e) ih
  | dm e _ ih => exact .dm (t _ _ e) ih
  | bin e _ _ ih jh => exact .bin (t _ _ e) ih jh
  | tri e _ _ _ ih jh kh => exact .tri (t _ _ e) ih jh kh
  | grp e f g _ ih => exact .grp (t _ _ e) (t _ _ f) g ih
theorem ItemIn.go {d : Addr} {H H' : Hp} {i : It} {v : V} (h : ItemIn H i v) (g : Go d H H') (hD : Dr H d) : ItemIn H' i v := h.mono (g.tp hD)
theorem ItemIn.ref {H : Hp} {i : It} {v : V} (h : ItemIn H i v) : ∃ a, v = .ref a := by cases h <;> exact ⟨_, rfl⟩
mutual
def It.dep : It → Nat
  | .num _ => 1
  | .name _ => 1
  | .lit _ => 1
  | .un _ a => 1 + a.dep
  | .dm _ a _ => 1 + a.dep
  | .bin _ a b => 1 + max a.dep b.dep
  | .tri a b c => 1 + max a.dep (max b.dep c.dep)
  | .grp _ l => 1 + depL l
def depL : List It → Nat
  | [] => 0
  | a :: r => max a.dep (depL r)
end
mutual
def It.sz : It → Nat
  | .num _ => 1
  | .name _ => 1
  | .lit _ => 1
  | .un _ a => 1 + a.sz
  | .dm _ a _ => 1 + a.sz
  | .bin _ a b => 1 + a.sz + b.sz
  | .tri a b c => 1 + a.sz + b.sz + c.sz
  | .grp _ l => 1 + szL l
def szL : List It → Nat
  | [] => 0
  | a :: r => a.sz + szL r
end
/-- of the right kinds: conditions (true) and expressions (false), over names, ints within B -/
inductive Okx (xs : List Str) (B : Nat) : Bool → It → Prop where
  | num {n} : n.natAbs ≤ B → Okx xs B false (.num n)
  | name {x} : x ∈ xs → Okx xs B false (.name x)
  | lit {b} : Okx xs B true (.lit b)
  | abs {a} : Okx xs B false a → Okx xs B false (.un "abs" a)
  | not {a} : Okx xs B true a → Okx xs B true (.un "not" a)
  | dm {w a n} : w ∈ (["div", "mod"] : List Str) → Okx xs B false a → 1 ≤ n → n.natAbs ≤ B + 1 → Okx xs B false (.dm w a n)
  | bin {w a b} : w ∈ (["add", "sub", "mul", "min", "max"] : List Str) → Okx xs B false a → Okx xs B false b → Okx xs B false (.bin w a b)
  | cmp {w a b} : w ∈ (["less", "equal"] : List Str) → Okx xs B false a → Okx xs B false b → Okx xs B true (.bin w a b)
  | tri {a b c} : Okx xs B true a → Okx xs B false b → Okx xs B false c → Okx xs B false (.tri a b c)
  | grp {w l} : w ∈ (["all", "any"] : List Str) → l.length ≤ 100 → (∀ i ∈ l, Okx xs B true i) → Okx xs B true (.grp w l)
theorem dep_pos : ∀ i : It, 1 ≤ i.dep
  | .num _ => by rw [It.dep]; omega
  | .name _ => by rw [It.dep]; omega
  | .lit _ => by rw [It.dep]; omega
  | .un _ a => by rw [It.dep]; omega
  | .dm _ a _ => by rw [It.dep]; omega
  | .bin _ a b => by rw [It.dep]; omega
  | .tri a b c => by rw [It.dep]; omega
  | .grp _ l => by rw [It.dep]; omega
section
variable {P : Program} {w : World} {K : PySem.W.Frag} {mg : Str → Option Value} {base : Heap}
/-! ### _law_name -/
theorem flat_res : (res.map V.str).all flatV = true := by decide +kernel
theorem flat_strs' (ys : List Str) : (ys.map V.str).all flatV = true := by
  rw [List.all_map]
  exact List.all_eq_true.mpr fun _ _ => rfl
theorem inV_str {x : Str} {ys : List Str} : inV (.str x) (ys.map V.str) = decide (x ∈ ys) := by
  unfold inV
  rw [List.any_map]
  induction ys with
  | nil => rfl
  | cons y r ih =>
    rw [List.any_cons, ih]
    show (eqV (.str y) (.str x) || _) = _
    have e : eqV (.str y) (.str x) = decide (x = y) := by
      show (y == x) = _
      rw [Bool.beq_eq_decide_eq]
      exact decide_eq_decide.mpr ⟨fun h => h.symm, fun h => h.symm⟩
    rw [e]
    by_cases h : x = y
    · rw [decide_eq_true h, decide_eq_true (List.mem_cons.mpr (.inl h)), Bool.true_or]
    · rw [decide_eq_false h, Bool.false_or]
      exact decide_eq_decide.mpr ⟨fun m => List.mem_cons_of_mem _ m, fun m => (List.mem_cons.mp m).resolve_left h⟩
theorem res_wd : ∀ z ∈ res, Wd z ∧ 2 ≤ z.length ∧ z.length ≤ 5 := by decide +kernel
theorem not_x : ∀ z ∈ res, ∀ y ∈ res, y ++ ("x" : Str) ≠ z := by decide +kernel
def spName : Sp := fun vs H Q _ => ∃ d : Addr, vs = [.ref d] ∧ Dr H d ∧ ∀ z H', Go d H H' → Nam z → Q (.str z) H'
theorem wd_cut {z : Str} (h : Wd z) (lo hi : Option Int) : Wd (cutS z lo hi) := fun c hc => by
  refine h c ?_
  unfold cutS at hc
  exact List.mem_of_mem_drop (List.mem_of_mem_take (by simpa using hc))
theorem len_cut1 {z : Str} (h : 2 ≤ z.length) : (cutS z none (some (-1))).length = z.length - 1 := by
  rw [len_list]
  unfold cutS
  rw [HT.sIx_none, show HT.sIx z.length z.length (some (-1)) = z.length - 1 by
    show (if (-1 : Int) < 0 then ((-1 : Int) + (z.length : Int)).toNat else min (-1 : Int).toNat z.length) = z.length - 1
    rw [if_pos (by decide)]
    omega]
  rw [List.toList_toArray, List.length_take, List.length_drop, ← len_list]
  omega
theorem ok_law_name (T : Txt K mg) : FnOk P w K mg base CX0 3 T.a_law_name T.d_law_name P_law_name spName := by
  have G_law_take := ok_law_take (P := P) (w := w) (base := base) T
  have G_law_some_word := ok_law_some_word (P := P) (w := w) (base := base) T
  have G_law_reserved := ok_law_reserved (P := P) (w := w) (base := base) T
  refine T.F_law_name.ok sc_law_name (fun vs H Q E h => ?_) (fun cdv A outer s H vs Q E hr h => ?_)
  · obtain ⟨d, rfl, _⟩ := h
    rfl
  obtain ⟨d, rfl, hD, q⟩ := h
  refine ⟨_, (pss_cons (ps_set (i := 1) sc_law_name.nd rfl (Or.inl rfl) (pe_call0 G_law_reserved (hr.mono (by omega)) (by rfl) T.m_law_reserved T.F_law_reserved.kp T.b_law_reserved .nil pass0))
    (pss_cons (ps_set (i := 2) sc_law_name.nd rfl (Or.inl rfl) (pe_call G_law_some_word (hr.mono (by omega)) (by rfl) T.m_law_some_word T.F_law_some_word.kp T.b_law_some_word .nil pass0 (pa_cons (pv 0) pa_nil)))
    (C8.pss_cut (ps_if (pt_cmpR op_eq (pe_call G_law_take (hr.mono (by omega)) (by rfl) T.m_law_take T.F_law_take.kp T.b_law_take .nil pass0 (pa_cons (pv 0) (pa_cons pe_int pa_nil))) pe_int (nomark _))
    (pss_cons (ps_set (i := 3) sc_law_name.nd rfl (Or.inl rfl) (pe_ix ix_list (pv 1) (pe_call G_law_take (hr.mono (by omega)) (by rfl) T.m_law_take T.F_law_take.kp T.b_law_take .nil pass0 (pa_cons (pv 0) (pa_cons pe_int pa_nil))) (fun _ _ => rfl)))
    (pss_one (ps_set (i := 2) sc_law_name.nd rfl (Or.inl rfl) (pe_ix ix_list (pe_lst (pa_cons (pe_op op_add_str (pv 3) pe_str) (pa_cons (pe_slice sl_str (pv 3) po_none (po_some (pe_un un_neg pe_int))) (pa_cons (pe_op op_add_str pe_str (pv 3)) pa_nil)))) (pe_call G_law_take (hr.mono (by omega)) (by rfl) T.m_law_take T.F_law_take.kp T.b_law_take .nil pass0 (pa_cons (pv 0) (pa_cons pe_int pa_nil))) (fun _ _ => rfl)))))
    pss_nil)
    (pss_cons (ps_if (pt_cmpR op_in_seq (pv 2) (pv 1) (by rfl))
    (pss_one (ps_ret (pe_op op_add_str (pv 2) pe_str)))
    pss_nil)
    (pss_one (ps_ret (pv 2))))))), ?_⟩
  refine ⟨rfl, fun kn H1 s1 n1 e1 => ?_⟩
  have hn : kn ≠ d := by
    rintro rfl
    obtain ⟨ns, hd⟩ := hD
    rw [n1] at hd; cases hd
  have g1 : Go d H H1 := .same hD s1
  have k1 : Keep K d H1 kn (res.map V.str) := .of hn e1
  refine ⟨_, rfl, d, rfl, g1.dr, fun z H2 g2 hz => ?_⟩
  refine ⟨fun σ H4 => ∃ (z : Str) (y : Option V), Nm z ∧ σ = [some (.ref d), some (.ref kn), some (.str z), y] ∧ Go d H1 H4, ?_, ?_⟩
  · refine ⟨_, rfl, d, _, rfl, g2.dr, (by decide), fun r H3 g3 r0 r1 => ?_⟩
    refine ⟨rfl, _, rfl, ?_⟩
    refine ite2 (fun c => ?_) (fun c => ?_)
    · refine ⟨_, rfl, _, rfl, d, _, rfl, g3.dr, (by decide), fun t H4 g4 t0 t1 => ?_⟩
      obtain ⟨nr, h1, h2⟩ := atI_map (f := V.str) (xs := res) t0 t1
      refine ⟨_, _, _, _, rfl, rfl, ((k1.go g2).go (g3.trans g4)).now, h1, ?_⟩
      obtain ⟨w1, w2, w3⟩ := res_wd nr h2
      have ws : Wd ("s" : Str) ∧ ("s" : Str).length = 1 ∧ Wd ("a" : Str) ∧ ("a" : Str).length = 1 := by decide +kernel
      have sz : ∀ n, n ≤ 1000 → n ≤ sizeLine := fun n h => Nat.le_of_lt (small1000 h)
      refine ⟨_, rfl, _, _, rfl, rfl, sz _ (by rw [ws.2.1]; omega), _, rfl, _, rfl, _, rfl, _, rfl, sz _ (by omega), _, rfl, _, _, rfl, rfl, sz _ (by rw [ws.2.2.2]; omega), (Nat.le_of_ble_eq_true rfl), fun p hp => ?_⟩
      have dp := g4.dr
      have g5 := fun o => Go.new (o := o) dp hp
      refine ⟨_, rfl, d, _, rfl, (g5 _).dr, (by decide), fun u H6 g6 u0 u1 => ?_⟩
      have np : p ≠ d := by
        rintro rfl
        obtain ⟨ns, hd⟩ := dp
        rw [hp] at hd; cases hd
      have e6 := g6.fr p _ np upd_same
      have l1 : Nm (nr ++ ("s" : Str)) := ⟨w1.app ws.1, by rw [len_app]; omega, by rw [len_app, ws.2.1]; omega⟩
      have l2 : Nm (cutS nr none (some (-1))) := ⟨wd_cut w1 _ _, by rw [len_cut1 w2]; omega, by rw [len_cut1 w2]; omega⟩
      have l3 : Nm (("a" : Str) ++ nr) := ⟨ws.2.2.1.app w1, by rw [len_app]; omega, by rw [len_app, ws.2.2.2]; omega⟩
      obtain ⟨v, hv, hm⟩ := atI_map (f := V.str) (xs := [nr ++ ("s" : Str), cutS nr none (some (-1)), ("a" : Str) ++ nr]) u0 u1
      refine ⟨_, _, _, _, rfl, rfl, sqd e6, hv, ?_⟩
      refine ⟨v, _, ?_, rfl, g2.trans (g3.trans (g4.trans ((g5 _).trans g6)))⟩
      simp only [List.mem_cons, List.not_mem_nil, or_false] at hm
      rcases hm with rfl | rfl | rfl
      · exact l1
      · exact l2
      · exact l3
    · exact ⟨z, none, hz, rfl, g2.trans g3⟩
  · rintro σ H4 ⟨z, y, hz, rfl, g4⟩
    refine ⟨_, rfl, _, rfl, _, _, rfl, .inl (k1.go g4).now, rfl, flat_res, _, rfl, ?_⟩
    rw [inV_str]
    refine ite2 (fun c => ?_) (fun c => ?_)
    · have hm : z ∈ res := of_decide_eq_true c
      have wx : Wd ("x" : Str) ∧ ("x" : Str).length = 1 := by decide +kernel
      refine ⟨_, rfl, _, _, rfl, rfl, ?_, q _ H4 (g1.trans g4) ⟨hz.wd.app wx.1, ?_, fun h => not_x _ h _ hm rfl⟩⟩
      · rw [wx.2]
        exact Nat.le_of_lt (small1000 (by have := hz.len; omega))
      · rw [len_app, wx.2]
        have := hz.len
        omega
    · have hm : z ∉ res := fun h => c (decide_eq_true h)
      exact ⟨_, rfl, q _ H4 (g1.trans g4) ⟨hz.wd, by have := hz.len; omega, hm⟩⟩
/-! ### _law_names -/
def spNames : Sp := fun vs H Q _ => ∃ (d : Addr) (m : Int), vs = [.ref d, .int m] ∧ Dr H d ∧ 0 ≤ m ∧ m ≤ 100 ∧
  ∀ (n : Addr) (xs : List Str) H', Go d H H' → H n = none → n ≠ d → H' n = some (.lst (xs.map V.str)) → (∀ x ∈ xs, Nam x) → xs.length ≤ m → xs.Nodup → (1 ≤ m → xs ≠ []) → Q (.ref n) H'
theorem ok_law_names (T : Txt K mg) : FnOk P w K mg base CX0 4 T.a_law_names T.d_law_names P_law_names spNames := by
  have G_law_name := ok_law_name (P := P) (w := w) (base := base) T
  refine T.F_law_names.ok sc_law_names (fun vs H Q E h => ?_) (fun cdv A outer s H vs Q E hr h => ?_)
  · obtain ⟨d, m, rfl, _⟩ := h
    rfl
  obtain ⟨d, m, rfl, hD, m0, m1, q⟩ := h
  refine ⟨_, (pss_cons (ps_set (i := 2) sc_law_names.nd rfl (Or.inl rfl) (pe_lst pa_nil))
    (pss_cons (ps_for PassesOwn.never rfl (pi_range1 (by rfl) T.z_range (pa_cons (pv 1) pa_nil)) (pg_name (i := 3) sc_law_names.nd rfl (Or.inl rfl))
    (pss_cons (ps_set (i := 4) sc_law_names.nd rfl (Or.inl rfl) (pe_call G_law_name (hr.mono (by omega)) (by rfl) T.m_law_name T.F_law_name.kp T.b_law_name .nil pass0 (pa_cons (pv 0) pa_nil)))
    (pss_one (ps_if (pt_cmpR op_notIn_seq (pv 4) (pv 2) (by rfl))
    (pss_one (ps_expr (pe_bm PySem.F.plainAttrs_list PySem.F.slot_list_append PySem.F.type_list_append mt_append (pv 2) (pa_cons (pv 4) pa_nil))))
    pss_nil))))
    (pss_one (ps_ret (pv 2))))), ?_⟩
  refine ⟨(by decide), fun n hn => ?_⟩
  have nd : n ≠ d := by
    rintro rfl
    obtain ⟨ns, hd⟩ := hD
    rw [hn] at hd; cases hd
  refine ⟨_, rfl, m, rfl, by omega, by omega, for_range (lo := 0) (n := m.toNat) (fun j σ H' => ∃ (xs : List Str) (y z : Option V), σ = [some (.ref d), some (.int m), some (.ref n), y, z] ∧ Go d H H' ∧ H' n = some (.lst (xs.map V.str)) ∧ (∀ x ∈ xs, Nam x) ∧ xs.length ≤ j ∧ xs.Nodup ∧ (0 < j → xs ≠ [])) ?_ ?_ ?_⟩
  · exact ⟨[], none, none, rfl, .new hD hn, upd_same, (fun x h => by cases h), Nat.le_refl _, List.nodup_nil, fun h => absurd h (by decide)⟩
  · rintro j σ H' hj ⟨xs, y, z, rfl, g, e, hx, hl, hnd, hne⟩
    refine ⟨_, rfl, d, rfl, g.dr, fun nm H2 g2 hnm => ?_⟩
    have e2 := g2.fr n _ nd e
    refine ⟨_, rfl, _, rfl, _, _, rfl, .inl (sqd e2), rfl, flat_strs' xs, _, rfl, ?_⟩
    rw [inV_str]
    refine ite2 (fun c => ?_) (fun c => ?_)
    · have hm : nm ∉ xs := fun h => by
        have c' : (!decide (nm ∈ xs)) = true := c
        rw [decide_eq_true h] at c'
        cases c'
      refine ⟨_, rfl, .inl ⟨rfl, _, sqd e2⟩, _, rfl, n, _, _, rfl, rfl, e2, ?_, ?_⟩
      · rw [List.length_map]
        exact small1000 (by omega)
      · refine ⟨xs ++ [nm], _, _, rfl, ?_, ?_, ?_, ?_, ?_, fun _ => by simp⟩
        · have g3 := g.trans g2
          refine ⟨fun b o hb eb => ?_, ?_⟩
          · rw [upd_ne (ne_of_none eb hn)]
            exact g3.fr b o hb eb
          · obtain ⟨ns, hd⟩ := g3.dr
            exact ⟨ns, by rw [upd_ne nd.symm]; exact hd⟩
        · rw [upd_same, List.map_append]
          rfl
        · intro x h
          rcases List.mem_append.mp h with h | h
          · exact hx x h
          · rw [List.mem_singleton.mp h]
            exact hnm
        · rw [List.length_append, List.length_singleton]
          omega
        · exact List.nodup_append.mpr ⟨hnd, List.nodup_cons.mpr ⟨List.not_mem_nil, List.nodup_nil⟩, fun a ha b hb => by
            rw [List.mem_singleton.mp hb]
            rintro rfl
            exact hm ha⟩
    · refine ⟨xs, _, _, rfl, g.trans g2, e2, hx, by omega, hnd, fun _ h => ?_⟩
      rw [h] at c
      exact c rfl
  · rintro σ H' ⟨xs, y, z, rfl, g, e, hx, hl, hnd, hne⟩
    exact ⟨_, rfl, q n xs H' g hn nd e hx (by omega) hnd fun h => hne (by omega)⟩
/-! ### _law_number -/
def spNumber (B : Nat) : Sp := fun vs H Q _ => ∃ (d : Addr) (c : Int), vs = [.ref d, .int c] ∧ Dr H d ∧ c.natAbs ≤ B ∧ ∀ n H', Go d H H' → n.natAbs ≤ B → Q (.int n) H'
theorem ok_law_number {B : Nat} (hB : 100 ≤ B) (T : Txt K mg) : FnOk P w K mg base CX0 2 T.a_law_number T.d_law_number P_law_number (spNumber B) := by
  have G_law_take := ok_law_take (P := P) (w := w) (base := base) T
  refine T.F_law_number.ok sc_law_number (fun vs H Q E h => ?_) (fun cdv A outer s H vs Q E hr h => ?_)
  · obtain ⟨d, c, rfl, _⟩ := h
    rfl
  obtain ⟨d, c, rfl, hD, hc, q⟩ := h
  refine ⟨_, (pss_one (ps_ret (pe_ix ix_list (pe_lst (pa_cons pe_int (pa_cons pe_int (pa_cons (pe_un un_neg pe_int) (pa_cons (pe_op op_sub (pe_call G_law_take (hr.mono (by omega)) (by rfl) T.m_law_take T.F_law_take.kp T.b_law_take .nil pass0 (pa_cons (pv 0) (pa_cons pe_int pa_nil))) pe_int) (pa_cons (pe_op op_sub (pe_call G_law_take (hr.mono (by omega)) (by rfl) T.m_law_take T.F_law_take.kp T.b_law_take .nil pass0 (pa_cons (pv 0) (pa_cons pe_int pa_nil))) pe_int) (pa_cons (pv 1) pa_nil))))))) (pe_call G_law_take (hr.mono (by omega)) (by rfl) T.m_law_take T.F_law_take.kp T.b_law_take .nil pass0 (pa_cons (pv 0) (pa_cons pe_int pa_nil))) (fun _ _ => rfl)))), ?_⟩
  refine ⟨_, rfl, _, rfl, d, _, rfl, hD, (by decide), fun r1 H1 g1 a0 a1 => ?_⟩
  refine ⟨_, _, rfl, rfl, _, rfl, d, _, rfl, g1.dr, (by decide), fun r2 H2 g2 b0 b1 => ?_⟩
  refine ⟨_, _, rfl, rfl, _, rfl, (Nat.le_of_ble_eq_true rfl), fun p hp => ?_⟩
  have g3 := fun o => Go.new (o := o) g2.dr hp
  refine ⟨_, rfl, d, _, rfl, (g3 _).dr, (by decide), fun u H4 g4 u0 u1 => ?_⟩
  have np : p ≠ d := by
    rintro rfl
    obtain ⟨ns, hd⟩ := g2.dr
    rw [hp] at hd; cases hd
  have e4 := g4.fr p _ np upd_same
  obtain ⟨v, hv, hm⟩ := atI_map (f := V.int) (xs := [0, 1, -1, r1 - 5, r2 - 100, c]) u0 u1
  refine ⟨_, _, _, _, rfl, rfl, sqd e4, hv, q v H4 (g1.trans (g2.trans ((g3 _).trans g4))) ?_⟩
  simp only [List.mem_cons, List.not_mem_nil, or_false] at hm
  omega
/-! ### _law_leaf -/
def spLeaf (K : PySem.W.Frag) (B : Nat) : Sp := fun vs H Q _ => ∃ (d n : Addr) (xs : List Str) (c : Int), vs = [.ref d, .ref n, .int c] ∧ Dr H d ∧ Keep K d H n (xs.map V.str) ∧ c.natAbs ≤ B ∧
  ∀ v i H', Go d H H' → ItemIn H' i v → Okx xs B false i → i.dep = 1 → i.sz = 1 → Q v H'
theorem ok_law_leaf {B : Nat} (hB : 100 ≤ B) (T : Txt K mg) : FnOk P w K mg base CX0 3 T.a_law_leaf T.d_law_leaf P_law_leaf (spLeaf K B) := by
  have G_law_take := ok_law_take (P := P) (w := w) (base := base) T
  have G_law_number := ok_law_number (P := P) (w := w) (base := base) hB T
  refine T.F_law_leaf.ok sc_law_leaf (fun vs H Q E h => ?_) (fun cdv A outer s H vs Q E hr h => ?_)
  · obtain ⟨d, n, xs, c, rfl, _⟩ := h
    rfl
  obtain ⟨d, n, xs, c, rfl, hD, hk, hc, q⟩ := h
  refine ⟨_, (pss_cons (ps_if (PW.pt (pw_or (pt_cmpR op_eq (pe_callB call_len_seq (by rfl) T.z_len PySem.boot_len (pa_cons (pv 1) pa_nil)) pe_int (nomark _)) (pw_or1 (pt_cmpR op_lt (pe_call G_law_take (hr.mono (by omega)) (by rfl) T.m_law_take T.F_law_take.kp T.b_law_take .nil pass0 (pa_cons (pv 0) (pa_cons pe_int pa_nil))) pe_int (nomark _)))))
    (pss_one (ps_ret (pe_tup (pa_cons pe_str (pa_cons (pe_call G_law_number (hr.mono (by omega)) (by rfl) T.m_law_number T.F_law_number.kp T.b_law_number .nil pass0 (pa_cons (pv 0) (pa_cons (pv 2) pa_nil))) pa_nil)))))
    pss_nil)
    (pss_one (ps_ret (pe_tup (pa_cons pe_str (pa_cons (pe_ix ix_list (pv 1) (pe_call G_law_take (hr.mono (by omega)) (by rfl) T.m_law_take T.F_law_take.kp T.b_law_take .nil pass0 (pa_cons (pv 0) (pa_cons (pe_callB call_len_seq (by rfl) T.z_len PySem.boot_len (pa_cons (pv 1) pa_nil)) pa_nil))) (fun _ _ => rfl)) pa_nil)))))), ?_⟩
  have one : ∀ H1, Go d H H1 → tRet (tTup (tCons (tC (.str "number")) (tCons (tCall (spNumber B) [] E0 (tCons (tVar 0) (tCons (tVar 2) tNil))) tNil))) { nx := fun _ H' => Q .non H', rt := Q } [some (.ref d), some (.ref n), some (.int c)] H1 := fun H1 g1 => by
    refine ⟨_, rfl, _, rfl, d, c, rfl, g1.dr, hc, fun m H2 g2 hm => ⟨(Nat.le_of_ble_eq_true rfl), fun p hp => ?_⟩⟩
    exact q _ _ _ (g1.trans (g2.trans (.new g2.dr hp))) (.num upd_same) (.num hm) (by rw [It.dep]) (by rw [It.sz])
  refine ⟨_, rfl, _, _, rfl, .inl hk.now, rfl, _, rfl, ?_⟩
  refine ite2 (fun c0 => ?_) (fun c0 => ?_)
  · exact one H (Go.refl hD)
  · have hl := int_ne c0
    rw [List.length_map] at hl
    refine ⟨_, rfl, d, _, rfl, hD, (by decide), fun r H1 g1 r0 r1 => ?_⟩
    refine ⟨_, _, rfl, rfl, _, rfl, ?_⟩
    refine ite2 (fun c1 => ?_) (fun c1 => ?_)
    · exact one H1 g1
    · refine ⟨_, rfl, _, rfl, _, rfl, _, _, rfl, .inl (hk.go g1).now, d, _, rfl, g1.dr, by rw [List.length_map]; omega, fun u H2 g2 u0 u1 => ?_⟩
      rw [List.length_map] at u1
      obtain ⟨v, hv, hm⟩ := atI_map (f := V.str) u0 u1
      refine ⟨_, _, _, _, rfl, rfl, ((hk.go g1).go g2).now, hv, (Nat.le_of_ble_eq_true rfl), fun p hp => ?_⟩
      exact q _ _ _ (g1.trans (g2.trans (.new g2.dr hp))) (.name upd_same) (.name hm) (by rw [It.dep]) (by rw [It.sz])
end
end NL

namespace NL
open PySem PySem.Spec PyProof.Rows L2
theorem yes_if {σ : L2.St} {H : Hp} {a n : Hp → Prop} (h : a H) : tYes σ H (fun b H3 => if b = true then a H3 else n H3) := by
  show (if true = true then a H else n H)
  rw [if_pos rfl]
  exact h
/-- one reading for two ways -/
theorem cutP {B C : Prop} (f : B → C) (b : B) : C := f b
/-! ### _law_expression, _law_test: both by one induction over the depth -/
def eT : Nat → Nat × Nat
  | 0 => (1, 3)
  | n + 1 => (1 + 2 * (eT n).1 + (eT n).2, 1 + 2 * (1 + 2 * (eT n).1 + (eT n).2) + 5 * (eT n).2)
theorem eT_pos (n : Nat) : 1 ≤ (eT n).1 := by
  cases n with
  | zero => decide
  | succ n => show 1 ≤ 1 + 2 * (eT n).1 + (eT n).2; omega
theorem eT_bin (n : Nat) : 1 + 2 * (eT n).1 ≤ (eT n).2 := by
  cases n with
  | zero => decide
  | succ n => show 1 + 2 * (1 + 2 * (eT n).1 + (eT n).2) ≤ 1 + 2 * (1 + 2 * (eT n).1 + (eT n).2) + 5 * (eT n).2; omega
theorem new_ne {d p : Addr} {H : Hp} (h : Dr H d) (hp : H p = none) : p ≠ d := by
  rintro rfl
  obtain ⟨ns, e⟩ := h
  rw [hp] at e; cases e
/-- a new list that was made while d is drawn, read behind more draws -/
theorem Go.at {d p : Addr} {H H' : Hp} {o : HO} (h : Dr H d) (hp : H p = none) (g : Go d (upd H p o) H') : H' p = some o := g.fr p o (new_ne h hp) upd_same
def spE (K : PySem.W.Frag) (B : Nat) : Nat → Sp
  | 0 => fun _ _ _ _ => False
  | n + 1 => fun vs H Q _ => ∃ (d nm : Addr) (xs : List Str) (c δ : Int), vs = [.ref d, .ref nm, .int c, .int δ] ∧ Dr H d ∧ Keep K d H nm (xs.map V.str) ∧ c.natAbs ≤ B ∧ δ ≤ n ∧
    ∀ v i H', Go d H H' → ItemIn H' i v → Okx xs B false i → i.dep ≤ 2 * n + 1 → i.sz ≤ (eT n).1 → Q v H'
def spT (K : PySem.W.Frag) (B : Nat) : Nat → Sp
  | 0 => fun _ _ _ _ => False
  | n + 1 => fun vs H Q _ => ∃ (d nm : Addr) (xs : List Str) (c δ : Int), vs = [.ref d, .ref nm, .int c, .int δ] ∧ Dr H d ∧ Keep K d H nm (xs.map V.str) ∧ c.natAbs ≤ B ∧ δ ≤ n ∧
    ∀ v i H', Go d H H' → ItemIn H' i v → Okx xs B true i → i.dep ≤ 2 * n + 2 → i.sz ≤ (eT n).2 → Q v H'
theorem szL_le {m : Nat} : ∀ (l : List It), (∀ i ∈ l, i.sz ≤ m) → szL l ≤ l.length * m
  | [], _ => by rw [szL]; omega
  | a :: r, h => by
    rw [szL, List.length_cons, Nat.succ_mul]
    have h1 := h a List.mem_cons_self
    have h2 := szL_le r fun i hi => h i (List.mem_cons_of_mem _ hi)
    omega
theorem depL_le {m : Nat} : ∀ (l : List It), (∀ i ∈ l, i.dep ≤ m) → depL l ≤ m
  | [], _ => by rw [depL]; omega
  | a :: r, h => by
    rw [depL]
    have h1 := h a List.mem_cons_self
    have h2 := depL_le r fun i hi => h i (List.mem_cons_of_mem _ hi)
    omega
section
variable {P : Program} {w : World} {K : PySem.W.Frag} {mg : Str → Option Value} {base : Heap}
theorem ok_E {B n : Nat} (hB : 100 ≤ B) (T : Txt K mg) (G_law_expression : FnOk P w K mg base CX0 (3 + 2 * n) T.a_law_expression T.d_law_expression P_law_expression (spE K B n))
    (G_law_test : FnOk P w K mg base CX0 (4 + 2 * n) T.a_law_test T.d_law_test P_law_test (spT K B n)) :
    FnOk P w K mg base CX0 (4 + 2 * n + 1) T.a_law_expression T.d_law_expression P_law_expression (spE K B (n + 1)) := by
  have G_law_take := ok_law_take (P := P) (w := w) (base := base) T
  have G_law_leaf := ok_law_leaf (P := P) (w := w) (base := base) hB T
  refine T.F_law_expression.ok sc_law_expression (fun vs H Q E h => ?_) (fun cdv A outer s H vs Q E hr h => ?_)
  · obtain ⟨d, nm, xs, c, δ, rfl, _⟩ := h
    rfl
  obtain ⟨d, nm, xs, c, δ, rfl, hD, hk, hc, hδ, q⟩ := h
  refine ⟨_, (pss_cons (ps_set (i := 4) sc_law_expression.nd rfl (Or.inl rfl) (pe_call G_law_take (hr.mono (by omega)) (by rfl) T.m_law_take T.F_law_take.kp T.b_law_take .nil pass0 (pa_cons (pv 0) (pa_cons pe_int pa_nil))))
    (pss_cons (ps_if (PW.pt (pw_or (pt_cmpR op_lt (pv 3) pe_int (nomark _)) (pw_or1 (pt_cmpR op_lt (pv 4) pe_int (nomark _)))))
    (pss_one (ps_ret (pe_call G_law_leaf (hr.mono (by omega)) (by rfl) T.m_law_leaf T.F_law_leaf.kp T.b_law_leaf .nil pass0 (pa_cons (pv 0) (pa_cons (pv 1) (pa_cons (pv 2) pa_nil))))))
    pss_nil)
    (pss_cons (ps_set (i := 5) sc_law_expression.nd rfl (Or.inl rfl) (pe_call G_law_expression (hr.mono (by omega)) (by rfl) T.m_law_expression T.F_law_expression.kp T.b_law_expression .nil pass0 (pa_cons (pv 0) (pa_cons (pv 1) (pa_cons (pv 2) (pa_cons (pe_op op_sub (pv 3) pe_int) pa_nil))))))
    (pss_cons (ps_if (pt_cmpR op_eq (pv 4) pe_int (nomark _))
    (pss_one (ps_ret (pe_tup (pa_cons pe_str (pa_cons (pv 5) pa_nil)))))
    pss_nil)
    (pss_cons (ps_if (pt_cmpR op_lt (pv 4) pe_int (nomark _))
    (pss_one (ps_ret (pe_tup (pa_cons (pe_ix ix_list (pe_lst (pa_cons pe_str (pa_cons pe_str pa_nil))) (pe_op op_sub (pv 4) pe_int) (fun _ _ => rfl)) (pa_cons (pv 5) (pa_cons (pe_op op_add pe_int (pe_ix ix_list (pe_lst (pa_cons pe_int (pa_cons (pe_call G_law_take (hr.mono (by omega)) (by rfl) T.m_law_take T.F_law_take.kp T.b_law_take .nil pass0 (pa_cons (pv 0) (pa_cons pe_int pa_nil))) (pa_cons (pe_callB (call_abs) (by rfl) T.z_abs (by decide +kernel) (pa_cons (pv 2) pa_nil)) pa_nil)))) (pe_call G_law_take (hr.mono (by omega)) (by rfl) T.m_law_take T.F_law_take.kp T.b_law_take .nil pass0 (pa_cons (pv 0) (pa_cons pe_int pa_nil))) (fun _ _ => rfl))) pa_nil))))))
    pss_nil)
    (pss_cons (ps_set (i := 6) sc_law_expression.nd rfl (Or.inl rfl) (pe_call G_law_expression (hr.mono (by omega)) (by rfl) T.m_law_expression T.F_law_expression.kp T.b_law_expression .nil pass0 (pa_cons (pv 0) (pa_cons (pv 1) (pa_cons (pv 2) (pa_cons (pe_op op_sub (pv 3) pe_int) pa_nil))))))
    (pss_cons (ps_if (pt_cmpR op_eq (pv 4) pe_int (nomark _))
    (pss_one (ps_ret (pe_tup (pa_cons pe_str (pa_cons (pe_call G_law_test (hr.mono (by omega)) (by rfl) T.m_law_test T.F_law_test.kp T.b_law_test .nil pass0 (pa_cons (pv 0) (pa_cons (pv 1) (pa_cons (pv 2) (pa_cons (pe_op op_sub (pv 3) pe_int) pa_nil))))) (pa_cons (pv 5) (pa_cons (pv 6) pa_nil)))))))
    pss_nil)
    (pss_one (ps_ret (pe_tup (pa_cons (pe_ix ix_list (pe_lst (pa_cons pe_str (pa_cons pe_str (pa_cons pe_str (pa_cons pe_str (pa_cons pe_str pa_nil)))))) (pe_op op_sub (pv 4) pe_int) (fun _ _ => rfl)) (pa_cons (pv 5) (pa_cons (pv 6) pa_nil))))))))))))), ?_⟩
  refine ⟨_, rfl, d, _, rfl, hD, (by decide), fun kd H1 g1 k0 k1 => ?_⟩
  have leaf : tRet (tCall (spLeaf K B) [] E0 (tCons (tVar 0) (tCons (tVar 1) (tCons (tVar 2) tNil)))) { nx := fun _ H' => Q .non H', rt := Q } [some (.ref d), some (.ref nm), some (.int c), some (.int δ), some (.int kd), none, none] H1 := by
    refine ⟨_, rfl, _, rfl, _, rfl, d, nm, xs, c, rfl, g1.dr, hk.go g1, hc, fun v i H2 g2 hi ho hd hs => ?_⟩
    exact q v i H2 (g1.trans g2) hi ho (by omega) (by have := eT_pos n; omega)
  refine ⟨_, rfl, _, _, rfl, rfl, _, rfl, ?_⟩
  refine ite2 (fun c1 => iteT leaf) (fun c1 => ?_)
  refine ⟨_, rfl, _, _, rfl, rfl, _, rfl, ?_⟩
  refine ite2 (fun c2 => leaf) (fun c2 => ?_)
  have d1 : ¬ δ < 1 := fun h => c1 (decide_eq_true h)
  have k3 : ¬ kd < 3 := fun h => c2 (decide_eq_true h)
  cases n with
  | zero => exact absurd hδ (by omega)
  | succ n =>
  have eE : (eT (n + 1)).1 = 1 + 2 * (eT n).1 + (eT n).2 := rfl
  -- one
  refine ⟨_, rfl, _, rfl, _, rfl, _, rfl, _, _, rfl, rfl, d, nm, xs, c, δ - 1, rfl, g1.dr, hk.go g1, hc, by omega, fun v1 i1 H2 g2 hi1 ho1 hd1 hs1 => ?_⟩
  refine ⟨_, rfl, rfl, _, rfl, ?_⟩
  refine ite2 (fun c3 => ?_) (fun c3 => ?_)
  · refine ⟨_, rfl, (Nat.le_of_ble_eq_true rfl), fun p hp => ?_⟩
    have gn := fun o => Go.new (o := o) g2.dr hp
    exact q _ _ _ (g1.trans (g2.trans (gn _))) (.un upd_same (hi1.go (gn _) g2.dr)) (.abs ho1) (by rw [It.dep]; omega) (by rw [It.sz]; omega)
  have k4 : kd ≠ 3 := int_ne c3
  refine ⟨_, rfl, _, _, rfl, rfl, _, rfl, ?_⟩
  refine ite2 (fun c4 => ?_) (fun c4 => ?_)
  · have k5 : kd < 6 := of_decide_eq_true c4
    refine ⟨(Nat.le_of_ble_eq_true rfl), fun p hp => ?_⟩
    have gp := fun o => Go.new (o := o) g2.dr hp
    obtain ⟨wd, hw, hm⟩ := atI_map (f := V.str) (xs := ["div", "mod"]) (i := kd - 4) (by omega) (by show kd - 4 < 2; omega)
    refine ⟨_, rfl, _, _, rfl, rfl, _, _, _, _, rfl, rfl, sqd upd_same, hw, ?_⟩
    refine ⟨_, rfl, _, rfl, d, _, rfl, (gp _).dr, (by decide), fun r H3 g3 r0 r1 => ?_⟩
    refine ⟨_, rfl, _, rfl, (Nat.le_of_ble_eq_true rfl), fun p2 hp2 => ?_⟩
    have gp2 := fun o => Go.new (o := o) g3.dr hp2
    refine ⟨_, rfl, d, _, rfl, (gp2 _).dr, (by decide), fun u H4 g4 u0 u1 => ?_⟩
    obtain ⟨n1, hn1, hm1⟩ := atI_map (f := V.int) (xs := [0, r, if c < 0 then -c else c]) u0 u1
    refine ⟨_, _, _, _, rfl, rfl, sqd (g4.at g3.dr hp2), hn1, _, _, rfl, rfl, (Nat.le_of_ble_eq_true rfl), fun p3 hp3 => ?_⟩
    have gp3 := fun o => Go.new (o := o) g4.dr hp3
    have gg := fun o => (gp _).trans (g3.trans ((gp2 _).trans (g4.trans (gp3 o))))
    have hb : 0 ≤ n1 ∧ n1.natAbs ≤ B := by
      simp only [List.mem_cons, List.not_mem_nil, or_false] at hm1
      rcases hm1 with h | h | h
      · omega
      · omega
      · split at h <;> omega
    exact q _ _ _ (g1.trans (g2.trans (gg _))) (.dm upd_same (hi1.go (gg _) g2.dr)) (.dm hm ho1 (by omega) (by omega)) (by rw [It.dep]; omega) (by rw [It.sz]; omega)
  have k6 : ¬ kd < 6 := fun h => c4 (decide_eq_true h)
  -- two
  refine ⟨_, rfl, _, rfl, _, rfl, _, rfl, _, _, rfl, rfl, d, nm, xs, c, δ - 1, rfl, g2.dr, (hk.go g1).go g2, hc, by omega, fun v2 i2 H3 g3 hi2 ho2 hd2 hs2 => ?_⟩
  refine ⟨_, rfl, rfl, _, rfl, ?_⟩
  refine ite2 (fun c5 => ?_) (fun c5 => ?_)
  · refine ⟨_, rfl, _, rfl, _, rfl, _, rfl, _, _, rfl, rfl, d, nm, xs, c, δ - 1, rfl, g3.dr, ((hk.go g1).go g2).go g3, hc, by omega, fun v3 i3 H4 g4 hi3 ho3 hd3 hs3 => ?_⟩
    refine ⟨_, rfl, _, rfl, (Nat.le_of_ble_eq_true rfl), fun p hp => ?_⟩
    have gp := fun o => Go.new (o := o) g4.dr hp
    exact q _ _ _ (g1.trans (g2.trans (g3.trans (g4.trans (gp _))))) (.tri upd_same (hi3.go (gp _) g4.dr) (hi1.go (g3.trans (g4.trans (gp _))) g2.dr) (hi2.go (g4.trans (gp _)) g3.dr)) (.tri ho3 ho1 ho2) (by rw [It.dep]; omega) (by rw [It.sz]; omega)
  have k7 : kd ≠ 6 := int_ne c5
  refine ⟨(Nat.le_of_ble_eq_true rfl), fun p hp => ?_⟩
  have gp := fun o => Go.new (o := o) g3.dr hp
  obtain ⟨wd, hw, hm⟩ := atI_map (f := V.str) (xs := ["add", "sub", "mul", "min", "max"]) (i := kd - 7) (by omega) (by show kd - 7 < 5; omega)
  refine ⟨_, rfl, _, _, rfl, rfl, _, _, _, _, rfl, rfl, sqd upd_same, hw, _, rfl, _, rfl, (Nat.le_of_ble_eq_true rfl), fun p2 hp2 => ?_⟩
  have gp2 := fun o => Go.new (o := o) (gp _).dr hp2
  have gg := fun o => (gp _).trans (gp2 o)
  exact q _ _ _ (g1.trans (g2.trans (g3.trans (gg _)))) (.bin upd_same (hi1.go (g3.trans (gg _)) g2.dr) (hi2.go (gg _) g3.dr)) (.bin hm ho1 ho2) (by rw [It.dep]; omega) (by rw [It.sz]; omega)
theorem ok_T {B n : Nat} (hB : 100 ≤ B) (T : Txt K mg) (G_law_expression : FnOk P w K mg base CX0 (4 + 2 * n + 1) T.a_law_expression T.d_law_expression P_law_expression (spE K B (n + 1)))
    (G_law_test : FnOk P w K mg base CX0 (4 + 2 * n) T.a_law_test T.d_law_test P_law_test (spT K B n)) :
    FnOk P w K mg base CX0 (5 + 2 * n + 1) T.a_law_test T.d_law_test P_law_test (spT K B (n + 1)) := by
  have G_law_take := ok_law_take (P := P) (w := w) (base := base) T
  refine T.F_law_test.ok sc_law_test (fun vs H Q E h => ?_) (fun cdv A outer s H vs Q E hr h => ?_)
  · obtain ⟨d, nm, xs, c, δ, rfl, _⟩ := h
    rfl
  obtain ⟨d, nm, xs, c, δ, rfl, hD, hk, hc, hδ, q⟩ := h
  have eB := eT_bin n
  refine ⟨_, (pss_cons (ps_set (i := 4) sc_law_test.nd rfl (Or.inl rfl) (pe_call G_law_take (hr.mono (by omega)) (by rfl) T.m_law_take T.F_law_take.kp T.b_law_take .nil pass0 (pa_cons (pv 0) (pa_cons pe_int pa_nil))))
    (pss_cons (ps_if (pt_cmpR op_lt (pv 4) pe_int (nomark _))
    (pss_one (ps_ret (pe_ix ix_list (pe_lst (pa_cons (pe_tup (pa_cons pe_str pa_nil)) (pa_cons (pe_tup (pa_cons pe_str pa_nil)) pa_nil))) (pv 4) (fun _ _ => rfl))))
    pss_nil)
    (pss_cons (ps_if (PW.pt (pw_or (pt_cmpR op_lt (pv 3) pe_int (nomark _)) (pw_or1 (pt_cmpR op_lt (pv 4) pe_int (nomark _)))))
    (pss_cons (ps_set (i := 5) sc_law_test.nd rfl (Or.inl rfl) (pe_call G_law_expression (hr.mono (by omega)) (by rfl) T.m_law_expression T.F_law_expression.kp T.b_law_expression .nil pass0 (pa_cons (pv 0) (pa_cons (pv 1) (pa_cons (pv 2) (pa_cons (pe_op op_sub (pv 3) pe_int) pa_nil))))))
    (pss_one (ps_ret (pe_tup (pa_cons (pe_ix ix_list (pe_lst (pa_cons pe_str (pa_cons pe_str pa_nil))) (pe_op op_mod (pv 4) pe_int) (fun _ _ => rfl)) (pa_cons (pv 5) (pa_cons (pe_call G_law_expression (hr.mono (by omega)) (by rfl) T.m_law_expression T.F_law_expression.kp T.b_law_expression .nil pass0 (pa_cons (pv 0) (pa_cons (pv 1) (pa_cons (pv 2) (pa_cons (pe_op op_sub (pv 3) pe_int) pa_nil))))) pa_nil)))))))
    pss_nil)
    (pss_cons (ps_if (pt_cmpR op_eq (pv 4) pe_int (nomark _))
    (pss_one (ps_ret (pe_tup (pa_cons pe_str (pa_cons (pe_call G_law_test (hr.mono (by omega)) (by rfl) T.m_law_test T.F_law_test.kp T.b_law_test .nil pass0 (pa_cons (pv 0) (pa_cons (pv 1) (pa_cons (pv 2) (pa_cons (pe_op op_sub (pv 3) pe_int) pa_nil))))) pa_nil)))))
    pss_nil)
    (pss_cons (ps_set (i := 6) sc_law_test.nd rfl (Or.inl rfl) (pe_ix ix_list (pe_lst (pa_cons pe_int (pa_cons pe_int (pa_cons pe_int (pa_cons pe_int (pa_cons pe_int (pa_cons pe_int pa_nil))))))) (pe_call G_law_take (hr.mono (by omega)) (by rfl) T.m_law_take T.F_law_take.kp T.b_law_take .nil pass0 (pa_cons (pv 0) (pa_cons pe_int pa_nil))) (fun _ _ => rfl)))
    (pss_one (ps_ret (pe_tup (pa_cons (pe_ix ix_list (pe_lst (pa_cons pe_str (pa_cons pe_str (pa_cons pe_str pa_nil)))) (pe_op op_sub (pv 4) pe_int) (fun _ _ => rfl)) (pa_cons (pe_callTy call_tuple_of (by rfl) T.z_tuple (by decide +kernel) (pa_cons (pe_lc (own := [("k", 7)]) (g := (gName 7)) (tt := tYes) rfl sc_law_test.nd (pi_range1 (by rfl) T.z_range (pa_cons (pv 6) pa_nil)) (blkOk_by (N := N_law_test) (sc := defScope s_law_test) (by decide +kernel)) (fun _ _ _ _ _ => (pg_name (i := 7) sc_law_test.nd rfl (Or.inl rfl))) (fun _ _ _ _ _ => pts_nil) (fun _ _ _ _ _ => (pe_call G_law_test (hr.mono (by omega)) (by rfl) T.m_law_test T.F_law_test.kp T.b_law_test .nil pass0 (pa_cons (pv 0) (pa_cons (pv 1) (pa_cons (pv 2) (pa_cons (pe_op op_sub (pv 3) pe_int) pa_nil))))))) pa_nil)) pa_nil)))))))))), ?_⟩
  refine ⟨_, rfl, d, _, rfl, hD, (by decide), fun kd H1 g1 k0 k1 => ?_⟩
  refine ⟨_, rfl, _, _, rfl, rfl, _, rfl, ?_⟩
  refine ite2 (fun c1 => ?_) (fun c1 => ?_)
  · have k2 : kd < 2 := of_decide_eq_true c1
    refine ⟨(Nat.le_of_ble_eq_true rfl), fun p hp => ⟨(Nat.le_of_ble_eq_true rfl), fun p2 hp2 => ⟨(Nat.le_of_ble_eq_true rfl), fun p3 hp3 => ?_⟩⟩⟩
    have n12 : p ≠ p2 := ne_of_none upd_same hp2
    have n13 : p ≠ p3 := ne_of_none (by rw [upd_ne n12]; exact upd_same) hp3
    have n23 : p2 ≠ p3 := ne_of_none upd_same hp3
    obtain ⟨v, hv, hm⟩ := atI_mem (xs := [V.ref p, V.ref p2]) (i := kd) k0 (by show kd < 2; exact k2)
    have g2 := fun o => Go.new (o := o) g1.dr hp
    have g3 := fun o => Go.new (o := o) (g2 _).dr hp2
    have g4 := fun o => Go.new (o := o) (g3 _).dr hp3
    refine ⟨_, rfl, _, _, _, _, rfl, rfl, sqd upd_same, hv, ?_⟩
    simp only [List.mem_cons, List.not_mem_nil, or_false] at hm
    have gg := fun o => g1.trans ((g2 _).trans ((g3 _).trans (g4 o)))
    rcases hm with rfl | rfl
    · exact q _ (.lit true) _ (gg _) (.lit (by rw [upd_ne n13, upd_ne n12]; exact upd_same)) .lit (by rw [It.dep]; omega) (by rw [It.sz]; omega)
    · exact q _ (.lit false) _ (gg _) (.lit (by rw [upd_ne n23]; exact upd_same)) .lit (by rw [It.dep]; omega) (by rw [It.sz]; omega)
  have k2 : ¬ kd < 2 := fun h => c1 (decide_eq_true h)
  -- less, equal
  refine ⟨_, rfl, _, _, rfl, rfl, _, rfl, ?_⟩
  refine' cutP ?f ?b
  case f =>
    intro body
    refine ite2 (fun c2 => iteT body) (fun c2 => ?_)
    refine ⟨_, rfl, _, _, rfl, rfl, _, rfl, ?_⟩
    refine ite2 (fun c3 => body) (fun c3 => ?_)
    have d1 : ¬ δ < 1 := fun h => c2 (decide_eq_true h)
    have k6 : ¬ kd < 6 := fun h => c3 (decide_eq_true h)
    cases n with
    | zero => exact absurd hδ (by omega)
    | succ n =>
    have eE : (eT (n + 1)).2 = 1 + 2 * (1 + 2 * (eT n).1 + (eT n).2) + 5 * (eT n).2 := rfl
    -- not
    refine ⟨_, rfl, rfl, _, rfl, ?_⟩
    refine ite2 (fun c4 => ?_) (fun c4 => ?_)
    · refine ⟨_, rfl, _, rfl, _, rfl, _, rfl, _, _, rfl, rfl, d, nm, xs, c, δ - 1, rfl, g1.dr, hk.go g1, hc, by omega, fun v1 i1 H2 g2 hi1 ho1 hd1 hs1 => ?_⟩
      refine ⟨(Nat.le_of_ble_eq_true rfl), fun p hp => ?_⟩
      have gp := fun o => Go.new (o := o) g2.dr hp
      exact q _ _ _ (g1.trans (g2.trans (gp _))) (.un upd_same (hi1.go (gp _) g2.dr)) (.not ho1) (by rw [It.dep]; omega) (by rw [It.sz]; omega)
    have k7 : kd ≠ 6 := int_ne c4
    -- many
    refine ⟨(Nat.le_of_ble_eq_true rfl), fun p hp => ?_⟩
    have gp := fun o => Go.new (o := o) g1.dr hp
    refine ⟨_, rfl, d, _, rfl, (gp _).dr, (by decide), fun u H2 g2 u0 u1 => ?_⟩
    obtain ⟨m, hmv, hmm⟩ := atI_map (f := V.int) (xs := [0, 1, 2, 3, 2, 5]) u0 u1
    have hm5 : 0 ≤ m ∧ m ≤ 5 := by
      simp only [List.mem_cons, List.not_mem_nil, or_false] at hmm
      omega
    have g12 := g1.trans ((gp _).trans g2)
    refine ⟨_, _, _, _, rfl, rfl, sqd (g2.at g1.dr hp), hmv, (Nat.le_of_ble_eq_true rfl), fun p2 hp2 => ?_⟩
    have gp2 := fun o => Go.new (o := o) g2.dr hp2
    obtain ⟨wd, hw, hmw⟩ := atI_map (f := V.str) (xs := ["all", "any", "all"]) (i := kd - 7) (by omega) (by show kd - 7 < 3; omega)
    refine ⟨_, rfl, _, _, rfl, rfl, _, _, _, _, rfl, rfl, sqd upd_same, hw, _, rfl, m, rfl, by omega, by omega, fun D hD => ?_⟩
    have gD := fun o => Go.new (o := o) (gp2 _).dr hD
    refine lc_range (lo := 0) (n := m.toNat) (fun (j : Nat) (H' : Hp) => ∃ (l : List It) (vs : List V), vs.length = j ∧ l.length = j ∧ Go d (upd H2 p2 (.lst [.str "all", .str "any", .str "all"])) H' ∧ H' D = some (.lst vs) ∧ (∀ (k : Nat) i x, l[k]? = some i → vs[k]? = some x → ItemIn H' i x) ∧ (∀ i ∈ l, Okx xs B true i ∧ i.dep ≤ 2 * n + 2 ∧ i.sz ≤ (eT n).2)) ?_ ?_ ?_
    · exact ⟨[], [], rfl, rfl, gD _, upd_same, fun k i x h => by simp at h, fun i h => by cases h⟩
    · rintro j H' hj ⟨l, vs, hl1, hl2, g, e, hin, hok⟩
      refine ⟨rfl, ?_⟩
      refine yes_if ?_
      refine ⟨_, rfl, _, rfl, _, rfl, _, rfl, _, _, rfl, rfl, d, nm, xs, c, δ - 2, rfl, g.dr, (hk.go g12).go ((gp2 _).trans g), hc, by omega, fun v1 i1 H4 g4 hi1 ho1 hd1 hs1 => ?_⟩
      have nD : D ≠ d := new_ne (gp2 _).dr hD
      have e4 := g4.fr D _ nD e
      have t4 : Tp H4 (upd H4 D (.lst (vs ++ [v1]))) := fun a ys ea => by
        rw [upd_ne]
        · exact ea
        · rintro rfl
          rw [e4] at ea; cases ea
      refine ⟨vs, e4, small1000 (by omega), l ++ [i1], vs ++ [v1], ?_, ?_, ?_, upd_same, ?_, ?_⟩
      · rw [List.length_append, hl1] <;> rfl
      · rw [List.length_append, hl2] <;> rfl
      · have g5 := g.trans g4
        refine ⟨fun b o hb eb => ?_, ?_⟩
        · rw [upd_ne (ne_of_none eb hD)]
          exact g5.fr b o hb eb
        · obtain ⟨ns, h⟩ := g5.dr
          exact ⟨ns, by rw [upd_ne nD.symm]; exact h⟩
      · intro k i x h1 h2
        by_cases hk2 : k < j
        · rw [List.getElem?_append_left (by omega)] at h1 h2
          exact ((hin k i x h1 h2).go g4 g.dr).mono t4
        · have hk3 : k = j := by
            have := (List.getElem?_eq_some_iff.mp h1).1
            rw [List.length_append, hl2] at this
            have : [i1].length = 1 := rfl
            omega
          subst hk3
          rw [List.getElem?_append_right (by omega), hl2, Nat.sub_self] at h1
          rw [List.getElem?_append_right (by omega), hl1, Nat.sub_self] at h2
          obtain rfl : i1 = i := Option.some.inj h1
          obtain rfl : v1 = x := Option.some.inj h2
          exact hi1.mono t4
      · intro i hi
        rcases List.mem_append.mp hi with h | h
        · exact hok i h
        · rw [List.mem_singleton.mp h]
          exact ⟨ho1, hd1, hs1⟩
    · rintro H' ⟨l, vs, hl1, hl2, g, e, hin, hok⟩
      refine ⟨D, vs, rfl, .inl ⟨sqd e, fun tp htp => ?_⟩⟩
      have gt := fun o => Go.new (o := o) g.dr htp
      refine ⟨(Nat.le_of_ble_eq_true rfl), fun rp hrp => ?_⟩
      have gr := fun o => Go.new (o := o) (gt _).dr hrp
      have nt : tp ≠ rp := ne_of_none upd_same hrp
      have hz : szL l ≤ 5 * (eT n).2 := by
        have := szL_le l (fun i hi => (hok i hi).2.2)
        have h5 : l.length ≤ 5 := by omega
        exact Nat.le_trans this (Nat.mul_le_mul_right _ h5)
      have hd : depL l ≤ 2 * n + 2 := depL_le l (fun i hi => (hok i hi).2.1)
      refine q _ (.grp wd l) _ (g12.trans ((gp2 _).trans (g.trans ((gt _).trans (gr _))))) (.grp upd_same (by rw [upd_ne nt]; exact upd_same) (by omega) ?_) (.grp ?_ (by omega) fun i hi => (hok i hi).1) (by rw [It.dep]; omega) (by rw [It.sz]; omega)
      · intro k i x h1 h2
        exact (hin k i x h1 h2).go ((gt _).trans (gr _)) g.dr
      · simp only [List.mem_cons, List.not_mem_nil, or_false] at hmw ⊢
        rcases hmw with h | h | h
        · exact .inl h
        · exact .inr h
        · exact .inl h
  case b =>
    refine ⟨_, rfl, _, rfl, _, rfl, _, rfl, _, _, rfl, rfl, d, nm, xs, c, δ - 1, rfl, g1.dr, hk.go g1, hc, by omega, fun v1 i1 H2 g2 hi1 ho1 hd1 hs1 => ?_⟩
    refine ⟨(Nat.le_of_ble_eq_true rfl), fun p hp => ?_⟩
    have gp := fun o => Go.new (o := o) g2.dr hp
    have b1 := Int.emod_nonneg kd (by decide : (2 : Int) ≠ 0)
    have b2 := Int.emod_lt_of_pos kd (by decide : (0 : Int) < 2)
    obtain ⟨wd, hw, hm⟩ := atI_map (f := V.str) (xs := ["less", "equal"]) (i := kd % 2) b1 (by show kd % 2 < 2; exact b2)
    refine ⟨_, rfl, _, _, rfl, rfl, (by show (0 : Int) < 2; decide), _, _, _, _, rfl, rfl, sqd upd_same, hw, _, rfl, _, rfl, _, rfl, _, rfl, _, rfl, _, _, rfl, rfl, d, nm, xs, c, δ - 1, rfl, (gp _).dr, ((hk.go g1).go g2).go (gp _), hc, by omega, fun v2 i2 H3 g3 hi2 ho2 hd2 hs2 => ?_⟩
    refine ⟨(Nat.le_of_ble_eq_true rfl), fun p2 hp2 => ?_⟩
    have gp2 := fun o => Go.new (o := o) g3.dr hp2
    exact q _ _ _ (g1.trans (g2.trans ((gp _).trans (g3.trans (gp2 _))))) (.bin upd_same (hi1.go ((gp _).trans (g3.trans (gp2 _))) g2.dr) (hi2.go (gp2 _) g3.dr)) (.cmp hm ho1 ho2) (by rw [It.dep]; omega) (by rw [It.sz]; omega)
theorem ok_ET {B : Nat} (hB : 100 ≤ B) (T : Txt K mg) : ∀ n : Nat,
    FnOk P w K mg base CX0 (3 + 2 * n) T.a_law_expression T.d_law_expression P_law_expression (spE K B n) ∧ FnOk P w K mg base CX0 (4 + 2 * n) T.a_law_test T.d_law_test P_law_test (spT K B n)
  | 0 => ⟨⟨fun _ _ _ _ h => h.elim, fun _ _ _ _ _ _ _ _ _ _ _ _ _ h => h.elim⟩, ⟨fun _ _ _ _ h => h.elim, fun _ _ _ _ _ _ _ _ _ _ _ _ _ h => h.elim⟩⟩
  | n + 1 => by
    obtain ⟨ge, gt⟩ := ok_ET hB T n
    have h1 := ok_E hB T ge gt
    have h2 := ok_T hB T h1 gt
    exact ⟨h1.mono (by omega), h2.mono (by omega)⟩
end
end NL

namespace NL
open PySem PySem.Spec PyProof.Rows L2
theorem ixN_in {n : Nat} {k : Int} (h0 : 0 ≤ k) (h1 : k < n) : ixN n k = some k.toNat := by
  unfold ixN
  rw [if_pos h0, if_pos h1]
/-- a change at what was not there before -/
theorem same_put {H H' : Hp} {p : Addr} {o : HO} (s : Same H H') (hp : H p = none) : Same H (upd H' p o) := fun b u e => by
  rw [upd_ne (ne_of_none e hp)]
  exact s b u e
section
variable {P : Program} {w : World} {K : PySem.W.Frag} {mg : Str → Option Value} {base : Heap}
def spDraws (K : PySem.W.Frag) : Sp := fun vs H Q _ => ∃ (a : Addr) (ns : List Int) (m : Int), vs = [.ref a, .int m] ∧ SqL K H a (ns.map V.int) ∧ ns.length ≤ 63 ∧ 0 ≤ m ∧ m ≤ 1000 ∧
  ∀ d H', Same H H' → H d = none → Dr H' d → Q (.ref d) H'
theorem ok_law_draws (T : Txt K mg) : FnOk P w K mg base CX0 1 T.a_law_draws T.d_law_draws P_law_draws (spDraws K) := by
  refine T.F_law_draws.ok sc_law_draws (fun vs H Q E h => ?_) (fun cdv A outer s H vs Q E hr h => ?_)
  · obtain ⟨a, ns, m, rfl, _⟩ := h
    rfl
  obtain ⟨a, ns, m, rfl, hS, hl, m0, m1, q⟩ := h
  refine ⟨_, (pss_cons (ps_setLc (i := 2) (own := [("cell", 3)]) (g := (gName 3)) (tt := tYes) rfl sc_law_draws.nd rfl rfl (sw_true rfl rfl rfl (by decide +kernel)) (pi_list (pv 0)) (blkOk_by (N := N_law_draws) (sc := defScope s_law_draws) (by decide +kernel)) (fun _ _ _ _ _ => (pg_name (i := 3) sc_law_draws.nd rfl (Or.inl rfl))) (fun _ _ _ _ _ => pts_nil) (fun _ _ _ _ _ => (pe_callTy call_int1 (by rfl) T.z_int (by decide +kernel) (pa_cons (pv 3) pa_nil))))
    (C8.pss_cut (ps_if (pt_cmpR op_eq (pe_callB call_len_seq (by rfl) T.z_len PySem.boot_len (pa_cons (pv 2) pa_nil)) pe_int (nomark _))
    (pss_one (ps_expr (pe_bm PySem.F.plainAttrs_list PySem.F.slot_list_append PySem.F.type_list_append mt_append (pv 2) (pa_cons pe_int pa_nil))))
    pss_nil)
    (pss_cons (ps_set (i := 4) sc_law_draws.nd rfl (Or.inl rfl) (pe_callTy call_list_of (by rfl) T.z_list (by decide +kernel) (pa_cons (pv 2) pa_nil)))
    (pss_cons (ps_set (i := 5) sc_law_draws.nd rfl (Or.inl rfl) (pe_lst pa_nil))
    (pss_cons (ps_for PassesOwn.never rfl (pi_range1 (by rfl) T.z_range (pa_cons (pv 1) pa_nil)) (pg_name (i := 6) sc_law_draws.nd rfl (Or.inl rfl))
    (pss_cons (ps_set (i := 7) sc_law_draws.nd rfl (Or.inl rfl) (pe_op op_mod (pv 6) (pe_callB call_len_seq (by rfl) T.z_len PySem.boot_len (pa_cons (pv 2) pa_nil))))
    (pss_one (ps_if (pt_cmpR op_ge (pe_ix ix_list (pv 2) (pv 7) (fun _ _ => rfl)) (pe_op op_pow pe_int pe_int) (nomark _))
    (pss_cons (ps_expr (pe_bm PySem.F.plainAttrs_list PySem.F.slot_list_append PySem.F.type_list_append mt_append (pv 5) (pa_cons (pe_op op_mod (pe_callTy call_int1 (by rfl) T.z_int (by decide +kernel) (pa_cons (pe_ix ix_list (pv 4) (pv 7) (fun _ _ => rfl)) pa_nil)) pe_int) pa_nil)))
    (pss_one (ps_asg (pe_op op_fdiv (pe_ix ix_list (pv 4) (pv 7) (fun _ _ => rfl)) pe_int) (pg_sub (pv 4) (pv 7) set_list))))
    (pss_cons (ps_set (i := 8) sc_law_draws.nd rfl (Or.inl rfl) (pe_op op_mod (pe_callTy call_int1 (by rfl) T.z_int (by decide +kernel) (pa_cons (pe_op op_add (pe_op op_add (pe_op op_mul (pe_ix ix_list (pv 2) (pv 7) (fun _ _ => rfl)) pe_int) (pe_op op_mul (pv 6) pe_int)) pe_int) pa_nil)) pe_int))
    (pss_one (ps_expr (pe_bm PySem.F.plainAttrs_list PySem.F.slot_list_append PySem.F.type_list_append mt_append (pv 5) (pa_cons (pe_op op_mod (pe_callTy call_int1 (by rfl) T.z_int (by decide +kernel) (pa_cons (pe_op op_add (pe_op op_add (pe_op op_mul (pv 8) (pv 8)) (pe_op op_mul pe_int (pv 8))) (pv 6)) pa_nil)) pe_int) pa_nil)))))))))
    (pss_cons (ps_expr (pe_bm0 PySem.F.plainAttrs_list PySem.F.slot_list_reverse PySem.F.type_list_reverse mt_reverse (pv 5)))
    (pss_one (ps_ret (pv 5))))))))), ?_⟩
  -- cells
  refine ⟨_, rfl, a, rfl, ⟨_, hS⟩, fun c hc => ?_⟩
  refine lc_list (K := K) (a := a) (xs := ns.map V.int) (fun (j : Nat) (H' : Hp) => Same H H' ∧ H' c = some (.lst ((ns.take j).map V.int))) ?_ ?_ ?_ ?_
  · exact ⟨same_new hc _, by rw [upd_same, List.take_zero]; rfl⟩
  · rintro i H' _ ⟨s1, _⟩
    exact s1.seq hS
  · rintro i x H' hx ⟨s1, e1⟩
    rw [List.getElem?_map] at hx
    cases hn : ns[i]? with
    | none => rw [hn] at hx; cases hx
    | some n =>
      rw [hn] at hx
      obtain rfl : V.int n = x := Option.some.inj hx
      refine ⟨rfl, yes_if ?_⟩
      refine ⟨_, rfl, .inl ⟨n, rfl, _, e1, ?_, same_put s1 hc, ?_⟩⟩
      · rw [List.length_map, List.length_take]
        exact small1000 (by omega)
      · rw [upd_same, List.take_add_one, hn, List.map_append]
        rfl
  · rintro H1 ⟨s1, e1⟩
    rw [List.length_map, List.take_length] at e1
    -- at least one cell
    refine ⟨fun σ H2 => ∃ cs : List Int, cs ≠ [] ∧ cs.length ≤ 63 ∧ σ = [some (.ref a), some (.int m), some (.ref c), none, none, none, none, none, none] ∧ Same H H2 ∧ H2 c = some (.lst (cs.map V.int)), ?_, ?_⟩
    · refine ⟨_, rfl, _, _, rfl, .inl (sqd e1), rfl, _, rfl, ?_⟩
      refine ite2 (fun z => ?_) (fun z => ?_)
      · refine ⟨_, rfl, .inl ⟨rfl, _, sqd e1⟩, c, _, _, rfl, rfl, e1, ?_, ?_⟩
        · rw [List.length_map]
          exact small1000 (by omega)
        · have hz := int_eq z
          rw [List.length_map] at hz
          have : ns = [] := List.length_eq_zero_iff.mp (by omega)
          subst this
          exact ⟨[0], by simp, by decide, rfl, same_put s1 hc, upd_same⟩
      · have hz := int_ne z
        rw [List.length_map] at hz
        refine ⟨ns, ?_, hl, rfl, s1, e1⟩
        rintro rfl
        exact hz rfl
    · rintro σ H2 ⟨cs, hcs, hcl, rfl, s2, e2⟩
      have hpos : 0 < cs.length := List.length_pos_iff.mpr hcs
      -- rest, draws
      refine ⟨_, rfl, _, _, rfl, .inl (sqd e2), fun r hr2 => ?_⟩
      have ncr : c ≠ r := ne_of_none e2 hr2
      refine ⟨(Nat.le_of_ble_eq_true rfl), fun d hd => ?_⟩
      have ncd : c ≠ d := ne_of_none (by rw [upd_ne ncr]; exact e2) hd
      have nrd : r ≠ d := ne_of_none upd_same hd
      have hHr : H r = none := s2.free hr2
      have hHd : H d = none := (s2.trans (same_new hr2 _)).free hd
      refine ⟨_, rfl, m, rfl, by omega, by omega, for_range (lo := 0) (n := m.toNat) (fun (j : Nat) (σ : L2.St) (H' : Hp) => ∃ (rs ds : List Int) (y1 y2 y3 : Option V), σ = [some (.ref a), some (.int m), some (.ref c), none, some (.ref r), some (.ref d), y1, y2, y3] ∧ Same H H' ∧ H' c = some (.lst (cs.map V.int)) ∧ H' r = some (.lst (rs.map V.int)) ∧ rs.length = cs.length ∧ H' d = some (.lst (ds.map V.int)) ∧ ds.length ≤ j) ?_ ?_ ?_⟩
      · refine ⟨cs, [], none, none, none, rfl, (s2.trans (same_new hr2 _)).trans (same_new hd _), ?_, ?_, rfl, upd_same, Nat.le_refl _⟩
        · rw [upd_ne ncd, upd_ne ncr]; exact e2
        · rw [upd_ne nrd]; exact upd_same
      · rintro j σ H' hj ⟨rs, ds, y1, y2, y3, rfl, s3, ec, er, hrl, ed, hdl⟩
        have b0 := Int.emod_nonneg ((0 : Int) + (j : Int)) (show (((cs.map V.int).length : Nat) : Int) ≠ 0 by rw [List.length_map]; omega)
        have b1 : (((0 : Int) + (j : Int)) % (((cs.map V.int).length : Nat) : Int)) < (cs.length : Int) := by
          have h := Int.emod_lt_of_pos ((0 : Int) + (j : Int)) (show 0 < (((cs.map V.int).length : Nat) : Int) by rw [List.length_map]; omega)
          rw [List.length_map] at h ⊢
          exact h
        refine ⟨_, rfl, _, rfl, _, _, rfl, .inl (sqd ec), _, _, rfl, rfl, (by show 0 < (((cs.map V.int).length : Nat) : Int); rw [List.length_map]; omega), ?_⟩
        obtain ⟨cv, hcv, _⟩ := atI_map (f := V.int) (xs := cs) b0 b1
        obtain ⟨rv, hrv, _⟩ := atI_map (f := V.int) (xs := rs) b0 (by omega)
        refine ⟨_, rfl, _, rfl, _, _, _, _, rfl, rfl, sqd ec, hcv, _, _, rfl, rfl, ⟨by decide, by decide, by decide⟩, _, _, rfl, rfl, _, rfl, ?_⟩
        refine ite2 (fun z => ?_) (fun z => ?_)
        · refine ⟨_, rfl, .inl ⟨rfl, _, sqd ed⟩, _, rfl, _, rfl, _, _, _, _, rfl, rfl, sqd er, hrv, .inl ⟨_, rfl, _, _, rfl, rfl, (by show (0 : Int) < 1000; decide), d, _, _, rfl, rfl, ed, ?_, ?_⟩⟩
          · rw [List.length_map]
            exact small1000 (by omega)
          · have er2 : ∀ o, (upd H' d o) r = some (.lst (rs.map V.int)) := fun o => by rw [upd_ne nrd]; exact er
            refine ⟨_, rfl, _, rfl, _, _, _, _, rfl, rfl, sqd (er2 _), hrv, _, _, rfl, rfl, ⟨by decide, by decide⟩, _, rfl, _, rfl, r, _, _, _, rfl, rfl, er2 _, ixN_in b0 (by have h : (rs.map V.int).length = rs.length := List.length_map _; omega), ?_⟩
            refine ⟨rs.set (((0 : Int) + (j : Int)) % (((cs.map V.int).length : Nat) : Int)).toNat (rv / 1000), ds ++ [rv % 1000], _, _, _, rfl, same_put (same_put s3 hHd) hHr, ?_, ?_, ?_, ?_, ?_⟩
            · rw [upd_ne ncr, upd_ne ncd]; exact ec
            · rw [upd_same, List.map_set]
            · rw [List.length_set]; exact hrl
            · rw [upd_ne nrd.symm, upd_same, List.map_append]; rfl
            · rw [List.length_append, List.length_singleton]; omega
        · have o0 := fun z : Int => Int.emod_nonneg z (by decide : (2147483647 : Int) ≠ 0)
          have o1 := fun z : Int => Int.emod_lt_of_pos z (by decide : (0 : Int) < 2147483647)
          refine ⟨_, rfl, _, rfl, _, _, _, _, rfl, rfl, sqd ec, hcv, _, _, rfl, rfl, .inr ⟨by decide, by decide⟩, _, rfl, _, _, rfl, rfl, .inr ⟨by decide, by decide⟩, _, _, rfl, rfl, _, _, rfl, rfl, .inl ⟨_, rfl, _, _, rfl, rfl, (by show (0 : Int) < 2147483647; decide), ?_⟩⟩
          refine ⟨_, rfl, .inl ⟨rfl, _, sqd ed⟩, _, rfl, _, rfl, _, _, rfl, rfl, ?_, ?_⟩
          · left
            have h1 := o0 (cv * 48271 + (0 + (j : Int)) * 69621 + 11)
            have h2 := o1 (cv * 48271 + (0 + (j : Int)) * 69621 + 11)
            constructor
            · show -(2 ^ 64) < _
              omega
            · show _ < 2 ^ 64
              omega
          · refine ⟨_, rfl, _, _, rfl, rfl, .inl ⟨by decide, by decide⟩, _, _, rfl, rfl, _, rfl, _, _, rfl, rfl, .inl ⟨_, rfl, _, _, rfl, rfl, (by show (0 : Int) < 1000003; decide), d, _, _, rfl, rfl, ed, ?_, ?_⟩⟩
            · rw [List.length_map]
              exact small1000 (by omega)
            · refine ⟨rs, ds ++ [(((cv * 48271 + (0 + (j : Int)) * 69621 + 11) % 2147483647) * ((cv * 48271 + (0 + (j : Int)) * 69621 + 11) % 2147483647) + 3 * ((cv * 48271 + (0 + (j : Int)) * 69621 + 11) % 2147483647) + (0 + (j : Int))) % 1000003], _, _, _, rfl, same_put s3 hHd, ?_, ?_, hrl, ?_, ?_⟩
              · rw [upd_ne ncd]; exact ec
              · rw [upd_ne nrd]; exact er
              · rw [upd_same, List.map_append]; rfl
              · rw [List.length_append, List.length_singleton]; omega
      · rintro σ H' ⟨rs, ds, y1, y2, y3, rfl, s3, ec, er, hrl, ed, hdl⟩
        refine ⟨_, rfl, .inl ⟨rfl, _, sqd ed⟩, d, _, rfl, rfl, ed, ?_⟩
        refine ⟨_, rfl, q d _ (same_put s3 hHd) hHd ⟨ds.reverse, ?_⟩⟩
        rw [upd_same, List.map_reverse]
end
end NL

namespace NL
open PySem PySem.Spec PyProof.Rows L2
/-! ### what stands in an item: its tuple -/
def It.kids : It → List It
  | .num _ => []
  | .name _ => []
  | .lit _ => []
  | .un _ a => [a]
  | .dm _ a _ => [a]
  | .bin _ a b => [a, b]
  | .tri a b c => [a, b, c]
  | .grp _ l => l
def It.word : It → Str
  | .num _ => "number"
  | .name _ => "name"
  | .lit b => bstr b
  | .un w _ => w
  | .dm w _ _ => w
  | .bin w _ _ => w
  | .tri _ _ _ => "if"
  | .grp w _ => w
/-- the items stand at the values, one by one -/
def Kids (H : Hp) (l : List It) (xs : List V) : Prop := xs.length = l.length ∧ ∀ (k : Nat) i x, l[k]? = some i → xs[k]? = some x → ItemIn H i x
theorem Kids.mono {H H' : Hp} (t : Tp H H') {l : List It} {xs : List V} (h : Kids H l xs) : Kids H' l xs := ⟨h.1, fun k i x a b => (h.2 k i x a b).mono t⟩
theorem kids1 {H : Hp} {i : It} {x : V} (h : ItemIn H i x) : Kids H [i] [x] := ⟨rfl, fun k j y a b => by
  cases k with
  | zero => cases Option.some.inj a; cases Option.some.inj b; exact h
  | succ k => simp at a⟩
theorem Kids.cons {H : Hp} {i : It} {x : V} {l : List It} {xs : List V} (h : ItemIn H i x) (g : Kids H l xs) : Kids H (i :: l) (x :: xs) := ⟨by rw [List.length_cons, List.length_cons, g.1], fun k j y a b => by
  cases k with
  | zero => cases Option.some.inj a; cases Option.some.inj b; exact h
  | succ k => exact g.2 k j y (by simpa using a) (by simpa using b)⟩
theorem kids0 {H : Hp} : Kids H [] [] := ⟨rfl, fun k j y a b => by simp at a⟩
theorem Kids.get {H : Hp} {l : List It} {xs : List V} (h : Kids H l xs) {k : Nat} {x : V} (e : xs[k]? = some x) : ∃ i, l[k]? = some i ∧ ItemIn H i x ∧ i ∈ l := by
  have hk : k < xs.length := (List.getElem?_eq_some_iff.mp e).1
  rw [h.1] at hk
  exact ⟨l[k], List.getElem?_eq_getElem hk, h.2 k _ x (List.getElem?_eq_getElem hk) e, List.getElem_mem hk⟩
/-- an item's first part is its word -/
theorem ItemIn.head {H : Hp} {i : It} {a : Addr} (h : ItemIn H i (.ref a)) : ∃ r, H a = some (.tup (.str i.word :: r)) := by
  cases h <;> exact ⟨_, by assumption⟩
/-- the conditions' words are not the expressions' -/
def tests : List Str := ["true", "false", "less", "equal", "not", "all", "any"]
def wl (x : Str) (ys : List Str) : Bool := decide (x ∈ ys)
theorem word_test {xs : List Str} {B : Nat} {b : Bool} {i : It} (h : Okx xs B b i) : wl i.word tests = b := by
  cases h with
  | num _ => simp only [It.word]; decide +kernel
  | name _ => simp only [It.word]; decide +kernel
  | lit => rename_i b; cases b <;> (simp only [It.word]; decide +kernel)
  | abs _ => simp only [It.word]; decide +kernel
  | not _ => simp only [It.word]; decide +kernel
  | dm hw _ _ _ =>
    simp only [List.mem_cons, List.not_mem_nil, or_false] at hw
    rcases hw with rfl | rfl <;> (simp only [It.word]; decide +kernel)
  | bin hw _ _ =>
    simp only [List.mem_cons, List.not_mem_nil, or_false] at hw
    rcases hw with rfl | rfl | rfl | rfl | rfl <;> (simp only [It.word]; decide +kernel)
  | cmp hw _ _ =>
    simp only [List.mem_cons, List.not_mem_nil, or_false] at hw
    rcases hw with rfl | rfl <;> (simp only [It.word]; decide +kernel)
  | tri _ _ _ => simp only [It.word]; decide +kernel
  | grp hw _ _ =>
    simp only [List.mem_cons, List.not_mem_nil, or_false] at hw
    rcases hw with rfl | rfl <;> (simp only [It.word]; decide +kernel)
/-- 0: a leaf, 1: all and any, 2: div and mod, 3: the others -/
def It.cls : It → Nat
  | .num _ => 0
  | .name _ => 0
  | .lit _ => 0
  | .grp _ _ => 1
  | .dm _ _ _ => 2
  | _ => 3
theorem word_cls {xs : List Str} {B : Nat} {b : Bool} {i : It} (h : Okx xs B b i) :
    wl i.word ["number", "name", "true", "false"] = (i.cls == 0) ∧ wl i.word ["number", "name"] = (i.cls == 0 && !b) ∧ wl i.word ["true", "false"] = (i.cls == 0 && b) ∧
    wl i.word ["all", "any"] = (i.cls == 1) ∧ wl i.word ["div", "mod"] = (i.cls == 2) := by
  cases h with
  | num _ => simp only [It.word, It.cls]; decide +kernel
  | name _ => simp only [It.word, It.cls]; decide +kernel
  | lit => rename_i b; cases b <;> (simp only [It.word, It.cls]; decide +kernel)
  | abs _ => simp only [It.word, It.cls]; decide +kernel
  | not _ => simp only [It.word, It.cls]; decide +kernel
  | dm hw _ _ _ =>
    simp only [List.mem_cons, List.not_mem_nil, or_false] at hw
    rcases hw with rfl | rfl <;> (simp only [It.word, It.cls]; decide +kernel)
  | bin hw _ _ =>
    simp only [List.mem_cons, List.not_mem_nil, or_false] at hw
    rcases hw with rfl | rfl | rfl | rfl | rfl <;> (simp only [It.word, It.cls]; decide +kernel)
  | cmp hw _ _ =>
    simp only [List.mem_cons, List.not_mem_nil, or_false] at hw
    rcases hw with rfl | rfl <;> (simp only [It.word, It.cls]; decide +kernel)
  | tri _ _ _ => simp only [It.word, It.cls]; decide +kernel
  | grp hw _ _ =>
    simp only [List.mem_cons, List.not_mem_nil, or_false] at hw
    rcases hw with rfl | rfl <;> (simp only [It.word, It.cls]; decide +kernel)
/-- x in [a, b, ..], (a, b, ..): texts, the answer known -/
theorem inT {x : Str} {ys : List Str} {zs : List V} {b : Bool} (hz : zs = ys.map V.str) (h : wl x ys = b) : (if false = true then !inV (V.str x) zs else inV (V.str x) zs) = b := by
  rw [if_neg Bool.false_ne_true, hz, inV_str]; exact h
theorem ifT {c : Bool} {A B : Prop} (h : c = true) (a : A) : if c = true then A else B := by
  rw [if_pos h]; exact a
theorem ifF {c : Bool} {A B : Prop} (h : c = false) (b : B) : if c = true then A else B := by
  rw [if_neg (by rw [h]; exact Bool.false_ne_true)]; exact b
theorem blE {Q : VK} {b b' : Bool} {H : Hp} (h : b = b') (q : Q (.bl b') H) : Q (.bl b) H := by rw [h]; exact q
theorem flatW (ys : List Str) (zs : List V) (hz : zs = ys.map V.str) : zs.all flatV = true := by rw [hz]; exact flat_strs' ys
theorem atI0 {α : Type} {x : α} {r : List α} : atI (x :: r) 0 = some x := atI_nat (j := 0) rfl
theorem atI1 {α : Type} {x y : α} {r : List α} : atI (x :: y :: r) 1 = some y := atI_nat (j := 1) rfl
theorem atI2 {α : Type} {x y z : α} {r : List α} : atI (x :: y :: z :: r) 2 = some z := atI_nat (j := 2) rfl
/-- behind the first -/
theorem cut_tail (x : V) (r : List V) : cutV (x :: r) (some 1) none = r := by
  unfold cutV
  rw [show HT.sIx (x :: r).length 0 (some 1) = min 1 (x :: r).length from HT.sIx_nat (x :: r).length 0 1, HT.sIx_none]
  rw [show min 1 (x :: r).length = 1 by rw [List.length_cons]; omega]
  show List.take ((x :: r).length - 1) r = r
  rw [List.length_cons, Nat.add_sub_cancel]
  exact List.take_length
theorem not_whole (x : V) (r : List V) (hi : Option Int) : ¬ (HT.sIx (x :: r).length 0 (some 1) = 0 ∧ HT.sIx (x :: r).length (x :: r).length hi = (x :: r).length) := by
  rintro ⟨h, _⟩
  rw [show HT.sIx (x :: r).length 0 (some 1) = min 1 (x :: r).length from HT.sIx_nat (x :: r).length 0 1, List.length_cons] at h
  omega
/-- the parts of an item that is no leaf, no group and no div: behind its word -/
theorem ItemIn.rest {H : Hp} {i : It} {a : Addr} (h : ItemIn H i (.ref a)) (h3 : i.cls = 3) : ∃ r, H a = some (.tup (.str i.word :: r)) ∧ Kids H i.kids r := by
  cases h with
  | num _ => cases h3
  | name _ => cases h3
  | lit _ => cases h3
  | un e g => exact ⟨_, e, kids1 g⟩
  | dm _ _ => cases h3
  | bin e g k => exact ⟨_, e, .cons g (kids1 k)⟩
  | tri e g k l => exact ⟨_, e, .cons g (.cons k (kids1 l))⟩
  | grp _ _ _ _ => cases h3
theorem ItemIn.group {H : Hp} {i : It} {a : Addr} (h : ItemIn H i (.ref a)) (h3 : i.cls = 1) : ∃ b xs, H a = some (.tup [.str i.word, .ref b]) ∧ H b = some (.tup xs) ∧ Kids H i.kids xs := by
  cases h with
  | grp e f g k => exact ⟨_, _, e, f, g, k⟩
  | num _ => cases h3
  | name _ => cases h3
  | lit _ => cases h3
  | un e g => cases h3
  | dm _ _ => cases h3
  | bin e g k => cases h3
  | tri e g k l => cases h3
theorem ItemIn.divs {H : Hp} {i : It} {a : Addr} (h : ItemIn H i (.ref a)) (h3 : i.cls = 2) : ∃ x j n, H a = some (.tup [.str i.word, x, .int n]) ∧ ItemIn H j x ∧ i = .dm i.word j n := by
  cases h with
  | dm e g => exact ⟨_, _, _, e, g, rfl⟩
  | grp e f g k => cases h3
  | num _ => cases h3
  | name _ => cases h3
  | lit _ => cases h3
  | un e g => cases h3
  | bin e g k => cases h3
  | tri e g k l => cases h3
theorem cls_le (i : It) : i.cls = 0 ∨ i.cls = 1 ∨ i.cls = 2 ∨ i.cls = 3 := by cases i <;> simp [It.cls]
theorem kids_leaf {i : It} (h : i.cls = 0) : i.kids = [] := by cases i <;> first | rfl | cases h
theorem Kids.snoc {H : Hp} {l : List It} {vs : List V} {i : It} {v : V} (h : Kids H l vs) (hi : ItemIn H i v) : Kids H (l ++ [i]) (vs ++ [v]) := by
  obtain ⟨hl, hin⟩ := h
  refine ⟨by rw [List.length_append, List.length_append, hl] <;> rfl, fun k j x h1 h2 => ?_⟩
  by_cases hk : k < l.length
  · rw [List.getElem?_append_left (by omega)] at h1 h2
    exact hin k j x h1 h2
  · have hk3 : k = l.length := by
      have := (List.getElem?_eq_some_iff.mp h1).1
      rw [List.length_append, List.length_singleton] at this
      omega
    subst hk3
    rw [List.getElem?_append_right (by omega), Nat.sub_self] at h1
    rw [List.getElem?_append_right (by omega), hl, Nat.sub_self] at h2
    obtain rfl : i = j := Option.some.inj h1
    obtain rfl : v = x := Option.some.inj h2
    exact hi
theorem tp_put {H : Hp} {p : Addr} {xs : List V} {o : HO} (e : H p = some (.lst xs)) : Tp H (upd H p o) := fun a ys ea => by
  rw [upd_ne]
  · exact ea
  · rintro rfl
    rw [e] at ea; cases ea
theorem Kids.ok {H : Hp} {l : List It} {vs : List V} (h : Kids H l vs) {w : Str} {a b : Addr} (ha : H a = some (.tup [.str w, .ref b])) (hb : H b = some (.tup vs)) : ItemIn H (.grp w l) (.ref a) := .grp ha hb h.1 h.2
/-- a change at what was not there before keeps what is drawn -/
theorem Go.put2 {d p : Addr} {H H' : Hp} {o : HO} (g : Go d H H') (hp : H p = none) (n : p ≠ d) : Go d H (upd H' p o) := ⟨fun b u hb e => by
  rw [upd_ne (ne_of_none e hp)]
  exact g.fr b u hb e, by
  obtain ⟨ns, e⟩ := g.dr
  exact ⟨ns, by rw [upd_ne n.symm]; exact e⟩⟩
section
variable {P : Program} {w : World} {K : PySem.W.Frag} {mg : Str → Option Value} {base : Heap}
/-! ### _law_is_test -/
def spIsTest : Sp := fun vs H Q _ => ∃ (v : V) (i : It) (xs : List Str) (B : Nat) (b : Bool), vs = [v] ∧ ItemIn H i v ∧ Okx xs B b i ∧ ∀ H', Same H H' → Q (.bl b) H'
theorem ok_law_is_test (T : Txt K mg) : FnOk P w K mg base CX0 1 T.a_law_is_test T.d_law_is_test P_law_is_test spIsTest := by
  refine T.F_law_is_test.ok sc_law_is_test (fun vs H Q E h => ?_) (fun cdv A outer s H vs Q E hr h => ?_)
  · obtain ⟨v, i, xs, B, b, rfl, _⟩ := h
    rfl
  obtain ⟨v, i, xs, B, b, rfl, hi, ho, q⟩ := h
  obtain ⟨a, rfl⟩ := hi.ref
  obtain ⟨r, ha⟩ := hi.head
  refine ⟨_, (pss_one (ps_ret (pe_cmpR op_in_seq (pe_ix ix_tup (pv 0) pe_int (fun _ _ => rfl)) (pe_lst (pa_cons pe_str (pa_cons pe_str (pa_cons pe_str (pa_cons pe_str (pa_cons pe_str (pa_cons pe_str (pa_cons pe_str pa_nil)))))))) (by rfl)))), ?_⟩
  refine ⟨_, rfl, a, _, 0, _, rfl, rfl, sqt ha, atI0, (Nat.le_of_ble_eq_true rfl), fun p hp => ?_⟩
  refine ⟨p, _, rfl, .inl (sqd upd_same), rfl, by decide +kernel, ?_⟩
  exact blE (inT (ys := tests) rfl (word_test ho)) (q _ (same_new hp _))
/-! ### _law_inner: the parts as a new list -/
def spInner : Sp := fun vs H Q _ => ∃ (v : V) (i : It) (xs : List Str) (B : Nat) (b : Bool), vs = [v] ∧ ItemIn H i v ∧ Okx xs B b i ∧ ∀ p ys H', Same H H' → H p = none → H' p = some (.lst ys) → Kids H' i.kids ys → Q (.ref p) H'
theorem ok_law_inner (T : Txt K mg) : FnOk P w K mg base CX0 1 T.a_law_inner T.d_law_inner P_law_inner spInner := by
  refine T.F_law_inner.ok sc_law_inner (fun vs H Q E h => ?_) (fun cdv A outer s H vs Q E hr h => ?_)
  · obtain ⟨v, i, xs, B, b, rfl, _⟩ := h
    rfl
  obtain ⟨v, i, xs, B, b, rfl, hi, ho, q⟩ := h
  obtain ⟨a, rfl⟩ := hi.ref
  obtain ⟨r, ha⟩ := hi.head
  obtain ⟨c0, _, _, c1, c2⟩ := word_cls ho
  refine ⟨_, (pss_cons (ps_if (pt_cmpR op_in_seq (pe_ix ix_tup (pv 0) pe_int (fun _ _ => rfl)) (pe_lst (pa_cons pe_str (pa_cons pe_str (pa_cons pe_str (pa_cons pe_str pa_nil))))) (by rfl))
    (pss_one (ps_ret (pe_lst pa_nil)))
    pss_nil)
    (pss_cons (ps_if (pt_cmpR op_in_seq (pe_ix ix_tup (pv 0) pe_int (fun _ _ => rfl)) (pe_lst (pa_cons pe_str (pa_cons pe_str pa_nil))) (by rfl))
    (pss_one (ps_ret (pe_callTy call_list_of (by rfl) T.z_list (by decide +kernel) (pa_cons (pe_ix ix_tup (pv 0) pe_int (fun _ _ => rfl)) pa_nil))))
    pss_nil)
    (pss_cons (ps_if (pt_cmpR op_in_seq (pe_ix ix_tup (pv 0) pe_int (fun _ _ => rfl)) (pe_lst (pa_cons pe_str (pa_cons pe_str pa_nil))) (by rfl))
    (pss_one (ps_ret (pe_lst (pa_cons (pe_ix ix_tup (pv 0) pe_int (fun _ _ => rfl)) pa_nil))))
    pss_nil)
    (pss_one (ps_ret (pe_callTy call_list_of (by rfl) T.z_list (by decide +kernel) (pa_cons (pe_slice sl_tup (pv 0) (po_some pe_int) po_none) pa_nil))))))), ?_⟩
  refine ⟨_, rfl, a, _, 0, _, rfl, rfl, sqt ha, atI0, (Nat.le_of_ble_eq_true rfl), fun p1 hp1 => ?_⟩
  have s1 := fun o => same_new hp1 o
  refine ⟨p1, _, rfl, .inl (sqd upd_same), rfl, (by decide +kernel), _, rfl, ?_⟩
  rcases cls_le i with h0 | h1 | h2 | h3
  · refine ifT (inT (ys := ["number", "name", "true", "false"]) rfl (by rw [c0, h0] <;> rfl)) ?_
    refine ⟨(Nat.le_of_ble_eq_true rfl), fun p hp => ?_⟩
    refine q p [] _ ((s1 _).trans (same_new hp _)) ((s1 _).free hp) upd_same ?_
    rw [kids_leaf h0]
    exact kids0
  · refine ifF (inT (ys := ["number", "name", "true", "false"]) rfl (by rw [c0, h1] <;> rfl)) ?_
    obtain ⟨b2, ys, e1, e2, hk⟩ := hi.group h1
    refine ⟨_, rfl, a, _, 0, _, rfl, rfl, sqt (s1 _ _ _ e1), atI0, (Nat.le_of_ble_eq_true rfl), fun p2 hp2 => ?_⟩
    have s2 := fun o => (s1 _).trans (same_new hp2 o)
    refine ⟨p2, _, rfl, .inl (sqd upd_same), rfl, (by decide +kernel), _, rfl, ?_⟩
    refine ifT (inT (ys := ["all", "any"]) rfl (by rw [c1, h1] <;> rfl)) ?_
    refine ⟨_, rfl, a, _, 1, _, rfl, rfl, sqt (s2 _ _ _ e1), atI1, _, _, rfl, .inr (sqt (s2 _ _ _ e2)), fun p hp => ?_⟩
    exact q p ys _ ((s2 _).trans (same_new hp _)) ((s2 _).free hp) upd_same (hk.mono (Tp.same ((s2 _).trans (same_new hp _))))
  · refine ifF (inT (ys := ["number", "name", "true", "false"]) rfl (by rw [c0, h2] <;> rfl)) ?_
    obtain ⟨x, j, n, e1, hj, ej⟩ := hi.divs h2
    refine ⟨_, rfl, a, _, 0, _, rfl, rfl, sqt (s1 _ _ _ e1), atI0, (Nat.le_of_ble_eq_true rfl), fun p2 hp2 => ?_⟩
    have s2 := fun o => (s1 _).trans (same_new hp2 o)
    refine ⟨p2, _, rfl, .inl (sqd upd_same), rfl, (by decide +kernel), _, rfl, ?_⟩
    refine ifF (inT (ys := ["all", "any"]) rfl (by rw [c1, h2] <;> rfl)) ?_
    refine ⟨_, rfl, a, _, 0, _, rfl, rfl, sqt (s2 _ _ _ e1), atI0, (Nat.le_of_ble_eq_true rfl), fun p3 hp3 => ?_⟩
    have s3 := fun o => (s2 _).trans (same_new hp3 o)
    refine ⟨p3, _, rfl, .inl (sqd upd_same), rfl, (by decide +kernel), _, rfl, ?_⟩
    refine ifT (inT (ys := ["div", "mod"]) rfl (by rw [c2, h2] <;> rfl)) ?_
    refine ⟨_, rfl, a, _, 1, _, rfl, rfl, sqt (s3 _ _ _ e1), atI1, (Nat.le_of_ble_eq_true rfl), fun p hp => ?_⟩
    refine q p [x] _ ((s3 _).trans (same_new hp _)) ((s3 _).free hp) upd_same ?_
    rw [ej]
    exact kids1 (hj.mono (Tp.same ((s3 _).trans (same_new hp _))))
  · refine ifF (inT (ys := ["number", "name", "true", "false"]) rfl (by rw [c0, h3] <;> rfl)) ?_
    obtain ⟨ys, e1, hk⟩ := hi.rest h3
    refine ⟨_, rfl, a, _, 0, _, rfl, rfl, sqt (s1 _ _ _ e1), atI0, (Nat.le_of_ble_eq_true rfl), fun p2 hp2 => ?_⟩
    have s2 := fun o => (s1 _).trans (same_new hp2 o)
    refine ⟨p2, _, rfl, .inl (sqd upd_same), rfl, (by decide +kernel), _, rfl, ?_⟩
    refine ifF (inT (ys := ["all", "any"]) rfl (by rw [c1, h3] <;> rfl)) ?_
    refine ⟨_, rfl, a, _, 0, _, rfl, rfl, sqt (s2 _ _ _ e1), atI0, (Nat.le_of_ble_eq_true rfl), fun p3 hp3 => ?_⟩
    have s3 := fun o => (s2 _).trans (same_new hp3 o)
    refine ⟨p3, _, rfl, .inl (sqd upd_same), rfl, (by decide +kernel), _, rfl, ?_⟩
    refine ifF (inT (ys := ["div", "mod"]) rfl (by rw [c2, h3] <;> rfl)) ?_
    refine ⟨_, rfl, 1, rfl, a, _, rfl, sqt (s3 _ _ _ e1), not_whole _ _ _, fun p4 hp4 => ?_⟩
    have s4 := fun o => (s3 _).trans (same_new hp4 o)
    rw [cut_tail]
    refine ⟨_, _, rfl, .inr (sqt upd_same), fun p hp => ?_⟩
    exact q p ys _ ((s4 _).trans (same_new hp _)) ((s4 _).free hp) upd_same (hk.mono (Tp.same ((s4 _).trans (same_new hp _))))
end
end NL

namespace NL
open PySem PySem.Spec PyProof.Rows L2
/-! ### what an expression is worth, by a fact that stays -/
def EvP (te : TE) (σ : L2.St) (H : Hp) (P : V → Hp → Prop) : Prop := ∀ H1, Same H H1 → ∀ Q : VK, (∀ v H2, Same H1 H2 → P v H2 → Q v H2) → te σ H1 Q
def EvA (ta : TA) (σ : L2.St) (H : Hp) (P : List V → Hp → Prop) : Prop := ∀ H1, Same H H1 → ∀ Q : List V → Hp → Prop, (∀ vs H2, Same H1 H2 → P vs H2 → Q vs H2) → ta σ H1 Q
def Mo (P : V → Hp → Prop) : Prop := ∀ v H H', Same H H' → P v H → P v H'
def MoA (P : List V → Hp → Prop) : Prop := ∀ vs H H', Same H H' → P vs H → P vs H'
section
variable {σ : L2.St} {H : Hp} {P P' P1 : V → Hp → Prop} {Pr Pa : List V → Hp → Prop} {te : TE} {ta tr : TA} {v : V} {K : PySem.W.Frag}
theorem evp_imp (h : EvP te σ H P) (g : ∀ v H', Same H H' → P v H' → P' v H') : EvP te σ H P' := fun H1 s Q q => h H1 s Q fun v H2 s2 p => q v H2 s2 (g v H2 (s.trans s2) p)
theorem eva_imp {Pa' : List V → Hp → Prop} (h : EvA ta σ H Pa) (g : ∀ v H', Same H H' → Pa v H' → Pa' v H') : EvA ta σ H Pa' := fun H1 s Q q => h H1 s Q fun v H2 s2 p => q v H2 s2 (g v H2 (s.trans s2) p)
theorem evp_c : EvP (tC v) σ H (fun x _ => x = v) := fun H1 _ Q q => q v H1 (Same.refl H1) rfl
theorem evp_v {i : Nat} (h : σ[i]? = some (some v)) : EvP (tVar i) σ H (fun x _ => x = v) := fun H1 _ Q q => ⟨v, h, q v H1 (Same.refl H1) rfl⟩
theorem eva_nil : EvA tNil σ H (fun vs _ => vs = []) := fun H1 _ Q q => q [] H1 (Same.refl H1) rfl
theorem eva_cons (h : EvP te σ H P) (m : Mo P) (hr : EvA tr σ H Pr) : EvA (tCons te tr) σ H (fun vs H' => ∃ v r, vs = v :: r ∧ P v H' ∧ Pr r H') := fun H1 s Q q =>
  h H1 s _ fun v H2 s2 p => hr H2 (s.trans s2) _ fun r H3 s3 pr => q _ H3 (s2.trans s3) ⟨v, r, rfl, m _ _ _ s3 p, pr⟩
theorem evp_tup (h : EvA ta σ H Pa) (m : MoA Pa) (hl : ∀ vs H', Pa vs H' → vs.length ≤ 1000) : EvP (tTup ta) σ H (fun v H' => ∃ p xs, v = .ref p ∧ H' p = some (.tup xs) ∧ Pa xs H') := fun H1 s Q q =>
  h H1 s _ fun xs H2 s2 pa => ⟨Nat.le_of_lt (small1000 (hl _ _ pa)), fun p hp => q _ _ (s2.trans (same_new hp _)) ⟨p, xs, rfl, upd_same, m _ _ _ (same_new hp _) pa⟩⟩
/-- a tuple of constants and slots: its items -/
theorem evp_fix {xs : List V} (h : EvA ta σ H (fun vs _ => vs = xs)) (hl : xs.length ≤ 1000) : EvP (tTup ta) σ H (fun v H' => ∃ p, v = .ref p ∧ H' p = some (.tup xs)) :=
  evp_imp (evp_tup h (fun _ _ _ _ e => e) (fun vs _ e => by rw [e]; exact hl)) fun v H' _ ⟨p, ys, e, e2, e3⟩ => ⟨p, e, by rw [e2, e3]⟩
theorem eva_c {xs : List V} (hr : EvA tr σ H (fun vs _ => vs = xs)) : EvA (tCons (tC v) tr) σ H (fun vs _ => vs = v :: xs) := fun H1 s Q q => hr H1 s _ fun r H2 s2 e => q _ H2 s2 (by rw [e])
theorem eva_v {i : Nat} {xs : List V} (h : σ[i]? = some (some v)) (hr : EvA tr σ H (fun vs _ => vs = xs)) : EvA (tCons (tVar i) tr) σ H (fun vs _ => vs = v :: xs) := fun H1 s Q q => ⟨v, h, hr H1 s _ fun r H2 s2 e => q _ H2 s2 (by rw [e])⟩
/-- a list of items that are all of one kind -/
def All (n : Nat) (P : V → Hp → Prop) : List V → Hp → Prop := fun vs H => vs.length = n ∧ ∀ v ∈ vs, P v H
theorem all_mo {n : Nat} (m : Mo P) : MoA (All n P) := fun vs H H' s h => ⟨h.1, fun v hv => m v H H' s (h.2 v hv)⟩
theorem eva_all0 : EvA tNil σ H (All 0 P) := eva_imp eva_nil fun vs _ _ e => ⟨by rw [e] <;> rfl, fun v hv => by rw [e] at hv; cases hv⟩
theorem eva_all {n : Nat} (m : Mo P) (h : EvP te σ H P) (hr : EvA tr σ H (All n P)) : EvA (tCons te tr) σ H (All (n + 1) P) := eva_imp (eva_cons h m hr) fun vs H' _ ⟨v, r, e, p, pr⟩ => ⟨by rw [e, List.length_cons, pr.1], fun x hx => by
  rw [e] at hx
  rcases List.mem_cons.mp hx with h | h
  · rw [h]; exact p
  · exact pr.2 x h⟩
theorem evp_lst (h : EvA ta σ H Pa) (m : MoA Pa) (hl : ∀ vs H', Pa vs H' → vs.length ≤ 1000) : EvP (tLst ta) σ H (fun v H' => ∃ p xs, v = .ref p ∧ H' p = some (.lst xs) ∧ Pa xs H' ∧ H p = none) := fun H1 s Q q =>
  h H1 s _ fun xs H2 s2 pa => ⟨Nat.le_of_lt (small1000 (hl _ _ pa)), fun p hp => q _ _ (s2.trans (same_new hp _)) ⟨p, xs, rfl, upd_same, m _ _ _ (same_new hp _) pa, (s.trans s2).free hp⟩⟩
/-- (w,) + both -/
theorem evp_wcat {w : V} {i : Nat} {b : Addr} {xs : List V} (hb : H b = some (.tup xs)) (hx : xs ≠ []) (hl : xs.length ≤ 900) (hi : σ[i]? = some (some (.ref b))) :
    EvP (tOp (rCatA K) (tTup (tCons (tC w) tNil)) (tVar i)) σ H (fun v H' => ∃ p, v = .ref p ∧ H' p = some (.tup (w :: xs))) := fun H1 s Q q => by
  refine ⟨(Nat.le_of_ble_eq_true rfl), fun p hp => ⟨_, hi, p, b, _, _, rfl, rfl, sqt upd_same, sqt (same_new hp _ _ _ (s _ _ hb)), ?_, (fun h => by cases h), fun _ h => absurd h hx, fun _ _ p2 hp2 => ?_⟩⟩
  · rw [List.length_singleton]
    exact Nat.le_of_lt (small1000 (by omega))
  · exact q _ _ ((same_new hp _).trans (same_new hp2 _)) ⟨p2, rfl, upd_same⟩
end
theorem valE {Q : VK} {a b : Int} {H : Hp} (h : a = b) (q : Q (.int b) H) : Q (.int a) H := by rw [h]; exact q
/-! ### items one level deeper -/
def ItP (xs : List Str) (B D S : Nat) : V → Hp → Prop := fun v H => ∃ (i : It) (b : Bool), ItemIn H i v ∧ Okx xs B b i ∧ i.dep = D ∧ i.sz ≤ S
theorem itp_mo {xs : List Str} {B D S : Nat} : Mo (ItP xs B D S) := fun v H H' s ⟨i, b, h, r⟩ => ⟨i, b, h.mono (Tp.same s), r⟩
section
variable {P : Program} {w : World} {K : PySem.W.Frag} {mg : Str → Option Value} {base : Heap}
/-! ### _law_depth -/
def spDepth (n : Nat) : Sp := fun vs H Q _ => ∃ (v : V) (i : It) (xs : List Str) (B : Nat) (b : Bool), vs = [v] ∧ ItemIn H i v ∧ Okx xs B b i ∧ i.dep ≤ n ∧ ∀ H', Same H H' → Q (.int i.dep) H'
theorem kids_dep {i : It} : i.dep = 1 + depL i.kids := by
  cases i <;> simp only [It.dep, It.kids, depL] <;> omega
theorem kids_ok {xs : List Str} {B : Nat} {b : Bool} {i : It} (h : Okx xs B b i) : ∀ j ∈ i.kids, ∃ b', Okx xs B b' j := by
  intro j hj
  cases h <;> simp only [It.kids, List.mem_cons, List.not_mem_nil, or_false] at hj
  case abs h => rw [hj]; exact ⟨_, h⟩
  case not h => rw [hj]; exact ⟨_, h⟩
  case dm h _ _ => rw [hj]; exact ⟨_, h⟩
  case bin h g =>
    rcases hj with e | e <;> rw [e]
    · exact ⟨_, h⟩
    · exact ⟨_, g⟩
  case cmp h g =>
    rcases hj with e | e <;> rw [e]
    · exact ⟨_, h⟩
    · exact ⟨_, g⟩
  case tri h g k =>
    rcases hj with e | e | e <;> rw [e]
    · exact ⟨_, h⟩
    · exact ⟨_, g⟩
    · exact ⟨_, k⟩
  case grp h => exact ⟨_, h j hj⟩
theorem kids_len {xs : List Str} {B : Nat} {b : Bool} {i : It} (h : Okx xs B b i) : i.kids.length ≤ 100 := by
  cases h <;> simp only [It.kids, List.length_cons, List.length_nil] <;> omega
theorem depL_in {l : List It} {i : It} (h : i ∈ l) : i.dep ≤ depL l := by
  induction l with
  | nil => cases h
  | cons a r ih =>
    rw [depL]
    rcases List.mem_cons.mp h with e | e
    · rw [e]; omega
    · have := ih e
      omega
theorem depL_max : ∀ l : List It, (∀ y ∈ (0 :: l.map fun i => (i.dep : Int)), y ≤ (depL l : Int)) ∧ (depL l : Int) ∈ (0 :: l.map fun i => (i.dep : Int))
  | [] => by
    rw [depL]
    refine ⟨fun y hy => ?_, List.mem_cons_self⟩
    rcases List.mem_cons.mp hy with h | h
    · rw [h]; exact Int.le_refl 0
    · cases h
  | a :: r => by
    obtain ⟨h1, h2⟩ := depL_max r
    rw [depL]
    refine ⟨fun y hy => ?_, ?_⟩
    · rw [List.map_cons] at hy
      rcases List.mem_cons.mp hy with h | h
      · omega
      · rcases List.mem_cons.mp h with h | h
        · omega
        · have := h1 y (List.mem_cons_of_mem _ h)
          omega
    · rw [List.map_cons]
      rcases Nat.le_total a.dep (depL r) with h | h
      · rw [Nat.max_eq_right h]
        rcases List.mem_cons.mp h2 with g | g
        · rw [g]; exact List.mem_cons_self
        · exact List.mem_cons_of_mem _ (List.mem_cons_of_mem _ g)
      · rw [Nat.max_eq_left h]
        exact List.mem_cons_of_mem _ List.mem_cons_self
theorem ok_law_depth (T : Txt K mg) : ∀ n : Nat, FnOk P w K mg base CX0 (n + 2) T.a_law_depth T.d_law_depth P_law_depth (spDepth n)
  | 0 => by
    have no : ∀ vs H Q E, ¬ spDepth 0 vs H Q E := fun vs H Q E ⟨v, i, xs, B, b, _, _, _, h, _⟩ => by
      have := dep_pos i
      omega
    exact ⟨fun vs H Q E h => absurd h (no vs H Q E), fun A outer s H args us vs Q E _ _ _ _ h => absurd h (no vs H Q E)⟩
  | n + 1 => by
    have G_law_depth := ok_law_depth T n
    have G_law_inner := ok_law_inner (P := P) (w := w) (base := base) T
    refine T.F_law_depth.ok sc_law_depth (fun vs H Q E h => ?_) (fun cdv A outer s H vs Q E hr h => ?_)
    · obtain ⟨v, i, xs, B, b, rfl, _⟩ := h
      rfl
    obtain ⟨v, i, xs, B, b, rfl, hi, ho, hd, q⟩ := h
    refine ⟨_, (pss_one (ps_ret (pe_op op_add pe_int (pe_callB (cr_max rfl) (by rfl) T.z_max (by decide +kernel) (pa_cons (pe_op op_cat (pe_lst (pa_cons pe_int pa_nil)) (pe_lc (own := [("part", 1)]) (g := (gName 1)) (tt := tYes) rfl sc_law_depth.nd (pi_list (pe_call G_law_inner (hr.mono (by omega)) (by rfl) T.m_law_inner T.F_law_inner.kp T.b_law_inner .nil pass0 (pa_cons (pv 0) pa_nil))) (blkOk_by (N := N_law_depth) (sc := defScope s_law_depth) (by decide +kernel)) (fun _ _ _ _ _ => (pg_name (i := 1) sc_law_depth.nd rfl (Or.inl rfl))) (fun _ _ _ _ _ => pts_nil) (fun _ _ _ _ _ => (pe_call G_law_depth (hr.mono (by omega)) (by rfl) T.m_law_depth T.F_law_depth.kp T.b_law_depth .nil pass0 (pa_cons (pv 1) pa_nil))))) pa_nil))))), ?_⟩
    refine ⟨(Nat.le_of_ble_eq_true rfl), fun p1 hp1 => ?_⟩
    have s1 := fun o => same_new hp1 o
    refine ⟨_, rfl, v, i, xs, B, b, rfl, hi.mono (Tp.same (s1 _)), ho, fun lp ys H2 s2 hlp e2 hk => ?_⟩
    refine ⟨lp, rfl, ⟨_, sqd e2⟩, fun D hD => ?_⟩
    have e1 := s2 p1 _ upd_same
    have n1D : p1 ≠ D := ne_of_none e1 hD
    have hkd := @kids_dep i
    refine lc_list (K := K) (a := lp) (xs := ys) (fun (j : Nat) (H' : Hp) => Same H2 H' ∧ H' D = some (.lst ((i.kids.take j).map fun k => V.int k.dep))) ?_ ?_ ?_ ?_
    · exact ⟨same_new hD _, by rw [upd_same, List.take_zero]; rfl⟩
    · rintro j H' _ ⟨s3, _⟩
      exact sqd (s3 _ _ e2)
    · rintro j x H' hx ⟨s3, e3⟩
      obtain ⟨kj, hkj, hin, hmem⟩ := hk.get hx
      obtain ⟨b', ho'⟩ := kids_ok ho kj hmem
      have hdj := depL_in hmem
      refine ⟨rfl, yes_if ?_⟩
      refine ⟨_, rfl, _, kj, xs, B, b', rfl, hin.mono (Tp.same s3), ho', by omega, fun H4 s4 => ?_⟩
      refine ⟨_, s4 _ _ e3, ?_, same_put (s3.trans s4) hD, ?_⟩
      · rw [List.length_map, List.length_take]
        have := kids_len ho
        exact small1000 (by omega)
      · rw [upd_same, List.take_add_one, hkj, List.map_append]
        rfl
    · rintro H3 ⟨s3, e3⟩
      rw [hk.1, List.take_length] at e3
      have hkl := kids_len ho
      refine ⟨p1, D, _, _, rfl, rfl, s3 _ _ e1, e3, ?_, fun p4 hp4 => ?_⟩
      · rw [List.length_map, List.length_singleton]
        exact Nat.le_of_lt (small1000 (by omega))
      · refine ⟨p4, 0 :: i.kids.map (fun k => (k.dep : Int)), rfl, sqd ?_, Nat.succ_pos _, fun m hm hmx => ?_⟩
        · rw [upd_same, List.map_cons, List.map_map]
          rfl
        · obtain ⟨g1, g2⟩ := depL_max i.kids
          have h1 := g1 m hm
          have h2 := hmx _ g2
          have e : 1 + m = (i.dep : Int) := by omega
          refine ⟨_, _, rfl, rfl, ?_⟩
          exact valE e (q _ ((s1 _).trans (s2.trans (s3.trans (same_new hp4 _)))))
end
end NL

namespace NL
open PySem PySem.Spec PyProof.Rows L2
theorem gn {i : Nat} {v : V} {σ : L2.St} {H : Hp} {Q : L2.St → Hp → Prop} (h : Q (σ.set i (some v)) H) : gName i v σ H Q := h
theorem r_seq {t u : TS} {D : Ends} {σ : L2.St} {H : Hp} (h : t { D with nx := u D } σ H) : tSeq t u D σ H := h
theorem r_asg {te : TE} {g : TG} {D : Ends} {σ : L2.St} {H : Hp} (h : te σ H fun x H1 => g x σ H1 D.nx) : tAsg te g D σ H := h
theorem r_op {r : R2} {ta tb : TE} {σ : L2.St} {H : Hp} {Q : VK} (h : ta σ H fun x H1 => tb σ H1 fun y H2 => r x y H2 Q) : tOp r ta tb σ H Q := h
theorem mo_eq {v : V} : Mo (fun x _ => x = v) := fun _ _ _ _ e => e
theorem moa_eq {xs : List V} : MoA (fun vs _ => vs = xs) := fun _ _ _ _ e => e
theorem moa_cons {P : V → Hp → Prop} {Pr : List V → Hp → Prop} (m : Mo P) (g : MoA Pr) : MoA (fun vs H' => ∃ v r, vs = v :: r ∧ P v H' ∧ Pr r H') := fun _ _ _ s ⟨v, r, e, p, q⟩ => ⟨v, r, e, m _ _ _ s p, g _ _ _ s q⟩
/-- a tuple of these items is at v -/
abbrev TupP (xs : List V) : V → Hp → Prop := fun v H => ∃ p, v = .ref p ∧ H p = some (.tup xs)
theorem mo_tup {xs : List V} : Mo (TupP xs) := fun _ _ _ s ⟨p, e, h⟩ => ⟨p, e, s _ _ h⟩
section
variable {σ : L2.St} {H : Hp} {v sv : V} {i si : It} {xs : List Str} {B : Nat} {K : PySem.W.Frag}
theorem p_abs (hv : σ[0]? = some (some v)) (hi : ItemIn H i v) (ho : Okx xs B false i) : EvP (tTup (tCons (tC (.str "abs")) (tCons (tVar 0) tNil))) σ H (ItP xs B (i.dep + 1) (i.sz + 3)) :=
  evp_imp (evp_fix (eva_c (eva_v hv eva_nil)) (Nat.le_of_ble_eq_true rfl)) fun x H' s ⟨p, e, h⟩ => ⟨.un "abs" i, false, by rw [e]; exact .un h (hi.mono (Tp.same s)), .abs ho, by rw [It.dep]; omega, by rw [It.sz]; omega⟩
theorem p_not (hv : σ[0]? = some (some v)) (hi : ItemIn H i v) (ho : Okx xs B true i) : EvP (tTup (tCons (tC (.str "not")) (tCons (tVar 0) tNil))) σ H (ItP xs B (i.dep + 1) (i.sz + 3)) :=
  evp_imp (evp_fix (eva_c (eva_v hv eva_nil)) (Nat.le_of_ble_eq_true rfl)) fun x H' s ⟨p, e, h⟩ => ⟨.un "not" i, true, by rw [e]; exact .un h (hi.mono (Tp.same s)), .not ho, by rw [It.dep]; omega, by rw [It.sz]; omega⟩
theorem p_dm {w : Str} {n : Int} (hw : w ∈ (["div", "mod"] : List Str)) (hn : 1 ≤ n ∧ n.natAbs ≤ B + 1) (hv : σ[0]? = some (some v)) (hi : ItemIn H i v) (ho : Okx xs B false i) : EvP (tTup (tCons (tC (.str w)) (tCons (tVar 0) (tCons (tC (.int n)) tNil)))) σ H (ItP xs B (i.dep + 1) (i.sz + 3)) :=
  evp_imp (evp_fix (eva_c (eva_v hv (eva_c eva_nil))) (Nat.le_of_ble_eq_true rfl)) fun x H' s ⟨p, e, h⟩ => ⟨.dm w i n, false, by rw [e]; exact .dm h (hi.mono (Tp.same s)), .dm hw ho hn.1 hn.2, by rw [It.dep]; omega, by rw [It.sz]; omega⟩
theorem p_bin {w : Str} {k : Nat} {b : Addr} {ys : List V} (hb : H b = some (.tup ys)) (hys : ys = [v, sv] ∨ ys = [sv, v]) (hσ : σ[k]? = some (some (.ref b))) (hi : ItemIn H i v) (hsi : ItemIn H si sv) (ho : Okx xs B false i) (hso : Okx xs B false si) (hd : si.dep = 1) (hz : si.sz = 1)
    (hw : w ∈ (["add", "sub", "mul", "min", "max", "less", "equal"] : List Str)) : EvP (tOp (rCatA K) (tTup (tCons (tC (.str w)) tNil)) (tVar k)) σ H (ItP xs B (i.dep + 1) (i.sz + 3)) := by
  have hp := dep_pos i
  have hl : ys.length = 2 := by rcases hys with e | e <;> rw [e] <;> rfl
  refine evp_imp (evp_wcat hb (by intro h; rw [h] at hl; cases hl) (by omega) hσ) fun x H' s ⟨p, e, h⟩ => ?_
  have hok : ∀ a b, Okx xs B false a → Okx xs B false b → ∃ t, Okx xs B t (.bin w a b) := fun a b ha hb => by
    by_cases h7 : w ∈ (["less", "equal"] : List Str)
    · exact ⟨_, .cmp h7 ha hb⟩
    · refine ⟨_, .bin ?_ ha hb⟩
      simp only [List.mem_cons, List.not_mem_nil, or_false] at hw h7 ⊢
      rcases hw with h | h | h | h | h | h | h
      · exact .inl h
      · exact .inr (.inl h)
      · exact .inr (.inr (.inl h))
      · exact .inr (.inr (.inr (.inl h)))
      · exact .inr (.inr (.inr (.inr h)))
      · exact absurd (.inl h) h7
      · exact absurd (.inr h) h7
  have hi' := hi.mono (Tp.same s)
  have hsi' := hsi.mono (Tp.same s)
  rw [e]
  rcases hys with ey | ey
  · rw [ey] at h
    obtain ⟨t, ht⟩ := hok i si ho hso
    exact ⟨.bin w i si, t, .bin h hi' hsi', ht, by rw [It.dep]; omega, by rw [It.sz]; omega⟩
  · rw [ey] at h
    obtain ⟨t, ht⟩ := hok si i hso ho
    exact ⟨.bin w si i, t, .bin h hsi' hi', ht, by rw [It.dep]; omega, by rw [It.sz]; omega⟩
theorem p_if1 (hv : σ[0]? = some (some v)) (hs : σ[1]? = some (some sv)) (hi : ItemIn H i v) (hsi : ItemIn H si sv) (ho : Okx xs B false i) (hso : Okx xs B false si) (hd : si.dep = 1) (hz : si.sz = 1) :
    EvP (tTup (tCons (tC (.str "if")) (tCons (tTup (tCons (tC (.str "true")) tNil)) (tCons (tVar 0) (tCons (tVar 1) tNil))))) σ H (ItP xs B (i.dep + 1) (i.sz + 3)) := by
  have hp := dep_pos i
  refine evp_imp (evp_tup (eva_cons evp_c mo_eq (eva_cons (evp_fix (eva_c eva_nil) (Nat.le_of_ble_eq_true rfl)) mo_tup (eva_v hv (eva_v hs eva_nil)))) (moa_cons mo_eq (moa_cons mo_tup moa_eq)) ?_) ?_
  · rintro vs H' ⟨_, _, rfl, _, _, _, rfl, _, rfl⟩
    exact Nat.le_of_ble_eq_true rfl
  · rintro x H' s ⟨p, _, rfl, h, _, _, rfl, rfl, _, _, rfl, ⟨p2, rfl, h2⟩, rfl⟩
    refine ⟨.tri (.lit true) i si, false, .tri h (.lit h2) (hi.mono (Tp.same s)) (hsi.mono (Tp.same s)), .tri .lit ho hso, ?_, ?_⟩
    · simp only [It.dep]; omega
    · simp only [It.sz]; omega
theorem p_if2 (hv : σ[0]? = some (some v)) (hs : σ[1]? = some (some sv)) (hi : ItemIn H i v) (hsi : ItemIn H si sv) (ho : Okx xs B false i) (hso : Okx xs B false si) (hd : si.dep = 1) (hz : si.sz = 1) :
    EvP (tTup (tCons (tC (.str "if")) (tCons (tTup (tCons (tC (.str "false")) tNil)) (tCons (tVar 1) (tCons (tVar 0) tNil))))) σ H (ItP xs B (i.dep + 1) (i.sz + 3)) := by
  have hp := dep_pos i
  refine evp_imp (evp_tup (eva_cons evp_c mo_eq (eva_cons (evp_fix (eva_c eva_nil) (Nat.le_of_ble_eq_true rfl)) mo_tup (eva_v hs (eva_v hv eva_nil)))) (moa_cons mo_eq (moa_cons mo_tup moa_eq)) ?_) ?_
  · rintro vs H' ⟨_, _, rfl, _, _, _, rfl, _, rfl⟩
    exact Nat.le_of_ble_eq_true rfl
  · rintro x H' s ⟨p, _, rfl, h, _, _, rfl, rfl, _, _, rfl, ⟨p2, rfl, h2⟩, rfl⟩
    refine ⟨.tri (.lit false) si i, false, .tri h (.lit h2) (hsi.mono (Tp.same s)) (hi.mono (Tp.same s)), .tri .lit hso ho, ?_, ?_⟩
    · simp only [It.dep]; omega
    · simp only [It.sz]; omega
theorem p_if3 (hv : σ[0]? = some (some v)) (hs : σ[1]? = some (some sv)) (hi : ItemIn H i v) (hsi : ItemIn H si sv) (ho : Okx xs B true i) (hso : Okx xs B false si) (hd : si.dep = 1) (hz : si.sz = 1) :
    EvP (tTup (tCons (tC (.str "if")) (tCons (tVar 0) (tCons (tVar 1) (tCons (tVar 1) tNil))))) σ H (ItP xs B (i.dep + 1) (i.sz + 3)) :=
  have hp := dep_pos i
  evp_imp (evp_fix (eva_c (eva_v hv (eva_v hs (eva_v hs eva_nil)))) (Nat.le_of_ble_eq_true rfl)) fun x H' s ⟨p, e, h⟩ => ⟨.tri i si si, false, by rw [e]; exact .tri h (hi.mono (Tp.same s)) (hsi.mono (Tp.same s)) (hsi.mono (Tp.same s)), .tri ho hso hso, by rw [It.dep]; omega, by rw [It.sz]; omega⟩
/-- the parts of a group -/
def GrP (xs : List Str) (B N D S : Nat) : V → Hp → Prop := fun x H => ∃ p ys l, x = .ref p ∧ H p = some (.tup ys) ∧ Kids H l ys ∧ (∀ j ∈ l, Okx xs B true j) ∧ depL l = D ∧ szL l ≤ S ∧ l.length ≤ N
theorem grp_mo {N D S : Nat} : Mo (GrP xs B N D S) := fun _ _ _ s ⟨p, ys, l, e, h, k, r⟩ => ⟨p, ys, l, e, s _ _ h, k.mono (Tp.same s), r⟩
theorem p_parts1 (hv : σ[0]? = some (some v)) (hi : ItemIn H i v) (ho : Okx xs B true i) : EvP (tTup (tCons (tVar 0) (tCons (tTup (tCons (tC (.str "true")) tNil)) tNil))) σ H (GrP xs B 2 i.dep (i.sz + 1)) := by
  have hp := dep_pos i
  refine evp_imp (evp_tup (eva_cons (evp_v hv) mo_eq (eva_cons (evp_fix (eva_c eva_nil) (Nat.le_of_ble_eq_true rfl)) mo_tup eva_nil)) (moa_cons mo_eq (moa_cons mo_tup moa_eq)) ?_) ?_
  · rintro vs H' ⟨_, _, rfl, _, _, _, rfl, _, rfl⟩
    exact Nat.le_of_ble_eq_true rfl
  · rintro x H' s ⟨p, _, rfl, h, _, _, rfl, rfl, _, _, rfl, ⟨p2, rfl, h2⟩, rfl⟩
    refine ⟨p, _, [i, .lit true], rfl, h, .cons (hi.mono (Tp.same s)) (kids1 (.lit h2)), ?_, ?_, ?_, Nat.le_refl 2⟩
    · intro j hj
      simp only [List.mem_cons, List.not_mem_nil, or_false] at hj
      rcases hj with e | e <;> rw [e]
      · exact ho
      · exact .lit
    · simp only [depL, It.dep]; omega
    · simp only [szL, It.sz]; omega
theorem p_parts2 (hv : σ[0]? = some (some v)) (hi : ItemIn H i v) (ho : Okx xs B true i) : EvP (tTup (tCons (tTup (tCons (tC (.str "false")) tNil)) (tCons (tVar 0) tNil))) σ H (GrP xs B 2 i.dep (i.sz + 1)) := by
  have hp := dep_pos i
  refine evp_imp (evp_tup (eva_cons (evp_fix (eva_c eva_nil) (Nat.le_of_ble_eq_true rfl)) mo_tup (eva_v hv eva_nil)) (moa_cons mo_tup moa_eq) ?_) ?_
  · rintro vs H' ⟨_, _, rfl, _, rfl⟩
    exact Nat.le_of_ble_eq_true rfl
  · rintro x H' s ⟨p, _, rfl, h, _, _, rfl, ⟨p2, rfl, h2⟩, rfl⟩
    refine ⟨p, _, [.lit false, i], rfl, h, .cons (.lit h2) (kids1 (hi.mono (Tp.same s))), ?_, ?_, ?_, Nat.le_refl 2⟩
    · intro j hj
      simp only [List.mem_cons, List.not_mem_nil, or_false] at hj
      rcases hj with e | e <;> rw [e]
      · exact .lit
      · exact ho
    · simp only [depL, It.dep]; omega
    · simp only [szL, It.sz]; omega
theorem p_grp {w : Str} {k : Nat} {gv : V} {D S : Nat} (hw : w ∈ (["all", "any"] : List Str)) (hg : GrP xs B 3 D S gv H) (hσ : σ[k]? = some (some gv)) : EvP (tTup (tCons (tC (.str w)) (tCons (tVar k) tNil))) σ H (ItP xs B (D + 1) (S + 1)) := by
  obtain ⟨b, ys, l, rfl, hb, hk, hok, hd, hs, h3⟩ := hg
  refine evp_imp (evp_fix (eva_c (eva_v hσ eva_nil)) (Nat.le_of_ble_eq_true rfl)) fun x H' s ⟨p, e, h⟩ => ⟨.grp w l, true, ?_, .grp hw (by omega) hok, by rw [It.dep]; omega, by rw [It.sz]; omega⟩
  have hk' := hk.mono (Tp.same s)
  rw [e]
  exact .grp h (s _ _ hb) hk'.1 hk'.2
theorem itp_le {D S S' : Nat} {x : V} (h : ItP xs B D S x H) (hs : S ≤ S') : ItP xs B D S' x H := by
  obtain ⟨i, b, a, c, d, e⟩ := h
  exact ⟨i, b, a, c, d, Nat.le_trans e hs⟩
/-- the two orders of an item and its side -/
def BothP (v sv : V) : V → Hp → Prop := fun x H => ∃ p ys, x = .ref p ∧ H p = some (.tup ys) ∧ (ys = [v, sv] ∨ ys = [sv, v])
theorem both_mo : Mo (BothP v sv) := fun _ _ _ s ⟨p, ys, e, h, r⟩ => ⟨p, ys, e, s _ _ h, r⟩
theorem p_both (hv : σ[0]? = some (some v)) (hs : σ[1]? = some (some sv)) : EvP (tLst (tCons (tTup (tCons (tVar 0) (tCons (tVar 1) tNil))) (tCons (tTup (tCons (tVar 1) (tCons (tVar 0) tNil))) tNil))) σ H (fun v' H' => ∃ p ys, v' = .ref p ∧ H' p = some (.lst ys) ∧ All 2 (BothP v sv) ys H' ∧ H p = none) :=
  evp_lst (eva_all both_mo (evp_imp (evp_fix (eva_v hv (eva_v hs eva_nil)) (Nat.le_of_ble_eq_true rfl)) fun x H' _ ⟨p, e, h⟩ => ⟨p, _, e, h, .inl rfl⟩)
    (eva_all both_mo (evp_imp (evp_fix (eva_v hs (eva_v hv eva_nil)) (Nat.le_of_ble_eq_true rfl)) fun x H' _ ⟨p, e, h⟩ => ⟨p, _, e, h, .inr rfl⟩) eva_all0)) (all_mo both_mo) fun vs H' h => by rw [h.1]; exact (Nat.le_of_ble_eq_true rfl)
end
section
variable {P : Program} {w : World} {K : PySem.W.Frag} {mg : Str → Option Value} {base : Heap}
/-! ### _law_around -/
def spAround : Sp := fun vs H Q _ => ∃ (v sv : V) (i si : It) (xs : List Str) (B : Nat) (b : Bool) (m t : Int), vs = [v, sv, .int m, .int t] ∧ ItemIn H i v ∧ Okx xs B b i ∧ ItemIn H si sv ∧ Okx xs B false si ∧ si.dep = 1 ∧ si.sz = 1 ∧ 100 ≤ B ∧ -1000 ≤ m ∧ m ≤ 1000 ∧
  ∀ v' i' b' H', Same H H' → ItemIn H' i' v' → Okx xs B b' i' → i'.dep = i.dep + m.toNat → i'.sz ≤ i.sz + 5 * m.toNat → Q v' H'
theorem ok_law_around (T : Txt K mg) : FnOk P w K mg base CX0 2 T.a_law_around T.d_law_around P_law_around spAround := by
  have G_law_is_test := ok_law_is_test (P := P) (w := w) (base := base) T
  refine T.F_law_around.ok sc_law_around (fun vs H Q E h => ?_) (fun cdv A outer s H vs Q E hr h => ?_)
  · obtain ⟨v, sv, i, si, xs, B, b, m, t, rfl, _⟩ := h
    rfl
  obtain ⟨v, sv, i, si, xs, B, b, m, t, rfl, hi, ho, hsi, hso, hsd, hsz, hB, m0, m1, q⟩ := h
  refine ⟨_, (pss_cons (ps_for PassesOwn.never rfl (pi_range1 (by rfl) T.z_range (pa_cons (pv 2) pa_nil)) (pg_name (i := 4) sc_law_around.nd rfl (Or.inl rfl))
    (pss_cons (ps_set (i := 5) sc_law_around.nd rfl (Or.inl rfl) (pe_ix ix_list (pe_lst (pa_cons (pe_tup (pa_cons (pv 0) (pa_cons (pv 1) pa_nil))) (pa_cons (pe_tup (pa_cons (pv 1) (pa_cons (pv 0) pa_nil))) pa_nil))) (pe_op op_mod (pe_callTy call_int1 (by rfl) T.z_int (by decide +kernel) (pa_cons (pe_op op_add (pe_op op_fdiv (pv 3) pe_int) (pv 4)) pa_nil)) pe_int) (fun _ _ => rfl)))
    (pss_one (ps_if (pt_val (pe_call G_law_is_test (hr.mono (by omega)) (by rfl) T.m_law_is_test T.F_law_is_test.kp T.b_law_is_test .nil pass0 (pa_cons (pv 0) pa_nil)))
    (pss_cons (ps_set (i := 6) sc_law_around.nd rfl (Or.inl rfl) (pe_ix ix_list (pe_lst (pa_cons (pe_tup (pa_cons (pv 0) (pa_cons (pe_tup (pa_cons pe_str pa_nil)) pa_nil))) (pa_cons (pe_tup (pa_cons (pe_tup (pa_cons pe_str pa_nil)) (pa_cons (pv 0) pa_nil))) pa_nil))) (pe_op op_mod (pe_callTy call_int1 (by rfl) T.z_int (by decide +kernel) (pa_cons (pe_op op_add (pe_op op_fdiv (pv 3) pe_int) (pv 4)) pa_nil)) pe_int) (fun _ _ => rfl)))
    (C8.pss_cut (ps_if (pt_cmpR op_lt (pv 2) pe_int (nomark _))
    (pss_one (ps_set (i := 6) sc_law_around.nd rfl (Or.inl rfl) (pe_op op_catA (pe_tup (pa_cons (pe_tup (pa_cons pe_str pa_nil)) pa_nil)) (pv 6))))
    pss_nil)
    (pss_one (ps_set (i := 0) sc_law_around.nd rfl (Or.inl rfl) (pe_ix ix_list (pe_lst (pa_cons (pe_tup (pa_cons pe_str (pa_cons (pv 0) pa_nil))) (pa_cons (pe_tup (pa_cons pe_str (pa_cons (pv 6) pa_nil))) (pa_cons (pe_tup (pa_cons pe_str (pa_cons (pv 6) pa_nil))) (pa_cons (pe_tup (pa_cons pe_str (pa_cons (pv 0) (pa_cons (pv 1) (pa_cons (pv 1) pa_nil))))) pa_nil))))) (pe_op op_mod (pe_callTy call_int1 (by rfl) T.z_int (by decide +kernel) (pa_cons (pe_op op_add (pv 3) (pv 4)) pa_nil)) pe_int) (fun _ _ => rfl))))))
    (pss_cons (ps_set (i := 7) sc_law_around.nd rfl (Or.inl rfl) (pe_lst (pa_cons (pe_tup (pa_cons pe_str (pa_cons (pv 0) pa_nil))) (pa_cons (pe_op op_catA (pe_tup (pa_cons pe_str pa_nil)) (pv 5)) (pa_cons (pe_op op_catA (pe_tup (pa_cons pe_str pa_nil)) (pv 5)) (pa_cons (pe_op op_catA (pe_tup (pa_cons pe_str pa_nil)) (pv 5)) (pa_cons (pe_op op_catA (pe_tup (pa_cons pe_str pa_nil)) (pv 5)) (pa_cons (pe_op op_catA (pe_tup (pa_cons pe_str pa_nil)) (pv 5)) pa_nil))))))))
    (pss_cons (ps_set (i := 7) sc_law_around.nd rfl (Or.inl rfl) (pe_op op_cat (pv 7) (pe_lst (pa_cons (pe_tup (pa_cons pe_str (pa_cons (pv 0) (pa_cons pe_int pa_nil)))) (pa_cons (pe_tup (pa_cons pe_str (pa_cons (pv 0) (pa_cons pe_int pa_nil)))) (pa_cons (pe_tup (pa_cons pe_str (pa_cons (pe_tup (pa_cons pe_str pa_nil)) (pa_cons (pv 0) (pa_cons (pv 1) pa_nil))))) pa_nil))))))
    (pss_cons (ps_set (i := 7) sc_law_around.nd rfl (Or.inl rfl) (pe_op op_cat (pv 7) (pe_lst (pa_cons (pe_tup (pa_cons pe_str (pa_cons (pe_tup (pa_cons pe_str pa_nil)) (pa_cons (pv 1) (pa_cons (pv 0) pa_nil))))) (pa_cons (pe_op op_catA (pe_tup (pa_cons pe_str pa_nil)) (pv 5)) (pa_cons (pe_op op_catA (pe_tup (pa_cons pe_str pa_nil)) (pv 5)) pa_nil))))))
    (pss_one (ps_set (i := 0) sc_law_around.nd rfl (Or.inl rfl) (pe_ix ix_list (pv 7) (pe_op op_mod (pe_callTy call_int1 (by rfl) T.z_int (by decide +kernel) (pa_cons (pe_op op_add (pv 3) (pe_op op_mul (pv 4) pe_int)) pa_nil)) pe_int) (fun _ _ => rfl)))))))))))
    (pss_one (ps_ret (pv 0)))), ?_⟩
  refine ⟨_, rfl, m, rfl, by omega, by omega, for_range (lo := 0) (n := m.toNat) (fun (j : Nat) (σ : L2.St) (H' : Hp) => ∃ (v : V) (i' : It) (b' : Bool) (y1 y2 y3 y4 : Option V), σ = [some v, some sv, some (.int m), some (.int t), y1, y2, y3, y4] ∧ Same H H' ∧ ItemIn H' i' v ∧ Okx xs B b' i' ∧ i'.dep = i.dep + j ∧ i'.sz ≤ i.sz + 5 * j) ?_ ?_ ?_⟩
  · exact ⟨v, i, b, none, none, none, none, rfl, Same.refl H, hi, ho, rfl, Nat.le_refl _⟩
  · rintro j σ H1 hj ⟨v, i', b', y1, y2, y3, y4, rfl, s1, hi', ho', hd', hz'⟩
    -- both
    refine gn (r_seq (r_asg (r_op ?_)))
    refine p_both (v := v) (sv := sv) (σ := [some v, some sv, some (.int m), some (.int t), some (.int (0 + (j : Int))), y2, y3, y4]) rfl rfl H1 (Same.refl H1) _ fun u H2 s2 hu => ?_
    obtain ⟨p, ys, rfl, e2, ⟨yl, yall⟩, _⟩ := hu
    have two := fun z : Int => (⟨Int.emod_nonneg z (by decide : (2 : Int) ≠ 0), Int.emod_lt_of_pos z (by decide)⟩ : 0 ≤ z % 2 ∧ z % 2 < 2)
    obtain ⟨bv, hbv, hbm⟩ := atI_mem (xs := ys) (two (t / 12 + (0 + (j : Int)))).1 (by rw [yl]; exact (two _).2)
    refine ⟨_, rfl, _, _, rfl, rfl, ⟨by decide, by decide⟩, _, rfl, _, _, rfl, rfl, .inl ⟨_, rfl, _, _, rfl, rfl, (by show (0 : Int) < 2; decide), _, _, _, _, rfl, rfl, sqd e2, hbv, ?_⟩⟩
    obtain ⟨bp, bys, rfl, ebp, hbys⟩ := yall bv hbm
    have hsi2 := hsi.mono (Tp.same (s1.trans s2))
    have hi2 := hi'.mono (Tp.same s2)
    refine ⟨_, rfl, v, i', xs, B, b', rfl, hi2, ho', fun H3 s3 => ⟨b', rfl, ?_⟩⟩
    have hi3 := hi2.mono (Tp.same s3)
    have hsi3 := hsi2.mono (Tp.same s3)
    cases b' with
    | true =>
      refine iteT ?_
      -- parts
      refine r_seq (r_asg (r_op ?_))
      refine (evp_lst (σ := [some v, some sv, some (.int m), some (.int t), some (.int (0 + (j : Int))), some (.ref bp), y3, y4]) (eva_all grp_mo (p_parts1 rfl hi3 ho') (eva_all grp_mo (p_parts2 rfl hi3 ho') eva_all0)) (all_mo grp_mo) fun vs H' h => by rw [h.1]; exact (Nat.le_of_ble_eq_true rfl)) H3 (Same.refl H3) _ fun u H4 s4 hu => ?_
      obtain ⟨p4, ys4, rfl, e4, ⟨yl4, yall4⟩, _⟩ := hu
      obtain ⟨gv, hgv, hgm⟩ := atI_mem (xs := ys4) (two (t / 12 + (0 + (j : Int)))).1 (by rw [yl4]; exact (two _).2)
      refine ⟨_, rfl, _, _, rfl, rfl, ⟨by decide, by decide⟩, _, rfl, _, _, rfl, rfl, .inl ⟨_, rfl, _, _, rfl, rfl, (by show (0 : Int) < 2; decide), _, _, _, _, rfl, rfl, sqd e4, hgv, ?_⟩⟩
      obtain ⟨gb, gys, gl, rfl, eg, hk, hok, hgd, hgs, hgl⟩ := yall4 gv hgm
      have hp := dep_pos i'
      refine ⟨fun σ H5 => ∃ gv, σ = [some v, some sv, some (.int m), some (.int t), some (.int (0 + (j : Int))), some (.ref bp), some gv, y4] ∧ Same H4 H5 ∧ GrP xs B 3 i'.dep (i'.sz + 2) gv H5, ?_, ?_⟩
      · refine ⟨_, rfl, _, _, rfl, rfl, _, rfl, ?_⟩
        refine ite2 (fun c => ?_) (fun c => ?_)
        · refine ⟨(Nat.le_of_ble_eq_true rfl), fun p5 hp5 => ⟨(Nat.le_of_ble_eq_true rfl), fun p6 hp6 => ⟨_, rfl, p6, gb, _, _, rfl, rfl, sqt upd_same, sqt (((same_new hp5 _).trans (same_new hp6 _)) _ _ eg), ?_, (fun h => by cases h), (fun _ h => ?_), fun _ _ p7 hp7 => ?_⟩⟩⟩
          · rw [List.length_singleton, hk.1]
            exact Nat.le_of_lt (small1000 (by omega))
          · have h0 := hk.1
            rw [h] at h0
            have : gl = [] := List.length_eq_zero_iff.mp h0.symm
            rw [this] at hgd
            simp only [depL] at hgd
            omega
          · have s56 := fun o => ((same_new hp5 _).trans (same_new hp6 _)).trans (same_new hp7 o)
            have n56 : p5 ≠ p6 := ne_of_none upd_same hp6
            have n57 : p5 ≠ p7 := ne_of_none (by rw [upd_ne n56]; exact upd_same) hp7
            refine ⟨_, rfl, s56 _, p7, _, .lit true :: gl, rfl, upd_same, .cons (.lit (by rw [upd_ne n57, upd_ne n56]; exact upd_same)) (hk.mono (Tp.same (s56 _))), ?_, ?_, ?_, ?_⟩
            · intro z hz
              rcases List.mem_cons.mp hz with e | e
              · rw [e]; exact .lit
              · exact hok z e
            · simp only [depL, It.dep]; omega
            · simp only [szL, It.sz]; omega
            · rw [List.length_cons]; omega
        · exact ⟨_, rfl, Same.refl H4, gb, gys, gl, rfl, eg, hk, hok, hgd, by omega, by omega⟩
      · rintro σ5 H5 ⟨gv, rfl, s5, hg⟩
        have s35 := s4.trans s5
        have hi5 := hi3.mono (Tp.same s35)
        have hsi5 := hsi3.mono (Tp.same s35)
        refine r_asg (r_op ?_)
        refine (evp_lst (σ := [some v, some sv, some (.int m), some (.int t), some (.int (0 + (j : Int))), some (.ref bp), some gv, y4]) (eva_all itp_mo (p_not rfl hi5 ho') (eva_all itp_mo (p_grp (w := "all") (by decide +kernel) hg rfl) (eva_all itp_mo (p_grp (w := "any") (by decide +kernel) hg rfl) (eva_all itp_mo (p_if3 rfl rfl hi5 hsi5 ho' hso hsd hsz) eva_all0)))) (all_mo itp_mo) fun vs H' h => by rw [h.1]; exact (Nat.le_of_ble_eq_true rfl)) H5 (Same.refl H5) _ fun u H6 s6 hu => ?_
        obtain ⟨p6, ys6, rfl, e6, ⟨yl6, yall6⟩, _⟩ := hu
        obtain ⟨nv, hnv, hnm⟩ := atI_mem (xs := ys6) (Int.emod_nonneg (t + (0 + (j : Int))) (by decide : (4 : Int) ≠ 0)) (by rw [yl6]; exact Int.emod_lt_of_pos _ (by decide))
        refine ⟨_, rfl, _, rfl, _, _, rfl, rfl, .inl ⟨_, rfl, _, _, rfl, rfl, (by show (0 : Int) < 4; decide), _, _, _, _, rfl, rfl, sqd e6, hnv, ?_⟩⟩
        obtain ⟨i2, b2, h1, h2, h3, h4⟩ := yall6 nv hnm
        exact ⟨nv, i2, b2, _, _, _, _, rfl, s1.trans (s2.trans (s3.trans (s35.trans s6))), h1, h2, by omega, by omega⟩
    | false =>
      refine iteF ?_
      have bn := fun (w : Str) (H' : Hp) (s' : Same H3 H') (y3 y4 : Option V) (hw : w ∈ (["add", "sub", "mul", "min", "max", "less", "equal"] : List Str)) => p_bin (K := K) (σ := [some v, some sv, some (.int m), some (.int t), some (.int (0 + (j : Int))), some (.ref bp), y3, y4]) (k := 5) (H := H') (s' _ _ (s3 _ _ ebp)) hbys rfl (hi3.mono (Tp.same s')) (hsi3.mono (Tp.same s')) ho' hso hsd hsz hw
      have r3 := Same.refl H3
      refine r_seq (r_asg ?_)
      refine (evp_lst (σ := [some v, some sv, some (.int m), some (.int t), some (.int (0 + (j : Int))), some (.ref bp), y3, y4]) (eva_all itp_mo (p_abs rfl hi3 ho') (eva_all itp_mo (bn "add" H3 r3 y3 y4 (by decide +kernel)) (eva_all itp_mo (bn "sub" H3 r3 y3 y4 (by decide +kernel)) (eva_all itp_mo (bn "mul" H3 r3 y3 y4 (by decide +kernel)) (eva_all itp_mo (bn "min" H3 r3 y3 y4 (by decide +kernel)) (eva_all itp_mo (bn "max" H3 r3 y3 y4 (by decide +kernel)) eva_all0)))))) (all_mo itp_mo) fun vs H' h => by rw [h.1]; exact (Nat.le_of_ble_eq_true rfl)) H3 r3 _ fun u H4 s4 hu => ?_
      obtain ⟨p4, ys4, rfl, e4, ⟨yl4, yall4⟩, _⟩ := hu
      have hi4 := hi3.mono (Tp.same s4)
      have hsi4 := hsi3.mono (Tp.same s4)
      refine ⟨_, rfl, ?_⟩
      refine (evp_lst (σ := [some v, some sv, some (.int m), some (.int t), some (.int (0 + (j : Int))), some (.ref bp), y3, some (.ref p4)]) (eva_all itp_mo (p_dm (w := "div") (by decide +kernel) (by omega) rfl hi4 ho') (eva_all itp_mo (p_dm (w := "mod") (by decide +kernel) (by omega) rfl hi4 ho') (eva_all itp_mo (p_if1 rfl rfl hi4 hsi4 ho' hso hsd hsz) eva_all0))) (all_mo itp_mo) fun vs H' h => by rw [h.1]; exact (Nat.le_of_ble_eq_true rfl)) H4 (Same.refl H4) _ fun u H5 s5 hu => ?_
      obtain ⟨p5, ys5, rfl, e5, ⟨yl5, yall5⟩, _⟩ := hu
      refine ⟨p4, p5, ys4, ys5, rfl, rfl, s5 _ _ e4, e5, by rw [yl4, yl5]; exact (Nat.le_of_ble_eq_true rfl), fun p6 hp6 => ?_⟩
      have s36 := fun o => (s4.trans s5).trans (same_new hp6 o)
      refine ⟨_, rfl, ?_⟩
      refine (evp_lst (σ := [some v, some sv, some (.int m), some (.int t), some (.int (0 + (j : Int))), some (.ref bp), y3, some (.ref p6)]) (eva_all itp_mo (p_if2 rfl rfl (hi3.mono (Tp.same (s36 _))) (hsi3.mono (Tp.same (s36 _))) ho' hso hsd hsz) (eva_all itp_mo (bn "less" _ (s36 _) _ _ (by decide +kernel)) (eva_all itp_mo (bn "equal" _ (s36 _) _ _ (by decide +kernel)) eva_all0))) (all_mo itp_mo) fun vs H' h => by rw [h.1]; exact (Nat.le_of_ble_eq_true rfl)) _ (Same.refl _) _ fun u H7 s7 hu => ?_
      obtain ⟨p7, ys7, rfl, e7, ⟨yl7, yall7⟩, _⟩ := hu
      refine ⟨p6, p7, ys4 ++ ys5, ys7, rfl, rfl, s7 _ _ upd_same, e7, by rw [List.length_append, yl4, yl5, yl7]; exact (Nat.le_of_ble_eq_true rfl), fun p8 hp8 => ?_⟩
      have s8 := fun o => s7.trans (same_new hp8 o)
      have hl12 : ((ys4 ++ ys5) ++ ys7).length = 12 := by rw [List.length_append, List.length_append, yl4, yl5, yl7]
      obtain ⟨nv, hnv, hnm⟩ := atI_mem (xs := (ys4 ++ ys5) ++ ys7) (Int.emod_nonneg (t + (0 + (j : Int)) * 5) (by decide : (12 : Int) ≠ 0)) (by rw [hl12]; exact Int.emod_lt_of_pos _ (by decide))
      refine ⟨_, rfl, _, rfl, _, rfl, _, _, rfl, rfl, .inr ⟨by decide, by decide⟩, _, _, rfl, rfl, .inl ⟨_, rfl, _, _, rfl, rfl, (by show (0 : Int) < 12; decide), _, _, _, _, rfl, rfl, sqd upd_same, hnv, ?_⟩⟩
      have hnp : ∀ o, ItP xs B (i'.dep + 1) (i'.sz + 3) nv (upd H7 p8 o) := fun o => by
        rcases List.mem_append.mp hnm with h | h
        · rcases List.mem_append.mp h with h | h
          · exact itp_mo _ _ _ ((s5.trans (same_new hp6 _)).trans (s8 _)) (yall4 nv h)
          · exact itp_mo _ _ _ ((same_new hp6 _).trans (s8 _)) (yall5 nv h)
        · exact itp_mo _ _ _ (same_new hp8 _) (yall7 nv h)
      obtain ⟨i2, b2, h1, h2, h3, h4⟩ := hnp _
      exact ⟨nv, i2, b2, _, _, _, _, rfl, s1.trans (s2.trans (s3.trans ((s36 _).trans (s8 _)))), h1, h2, by omega, by omega⟩
  · rintro σ H1 ⟨v, i', b', y1, y2, y3, y4, rfl, s1, hi', ho', hd', hz'⟩
    exact ⟨_, rfl, q v i' b' H1 s1 hi' ho' hd' hz'⟩
end
end NL

namespace NL
open PySem PySem.Spec PyProof.Rows L2
section
variable {P : Program} {w : World} {K : PySem.W.Frag} {mg : Str → Option Value} {base : Heap}
/-! ### _law_many -/
def spMany (K : PySem.W.Frag) (B : Nat) : Sp := fun vs H Q _ => ∃ (d n : Addr) (xs : List Str) (c : Int), vs = [.ref d, .ref n, .int c] ∧ Dr H d ∧ Keep K d H n (xs.map V.str) ∧ c.natAbs ≤ B ∧
  ∀ v i H', Go d H H' → ItemIn H' i v → Okx xs B true i → i.dep ≤ 3 → i.sz ≤ 100 → Q v H'
theorem ok_law_many {B : Nat} (hB : 100 ≤ B) (T : Txt K mg) : FnOk P w K mg base CX0 4 T.a_law_many T.d_law_many P_law_many (spMany K B) := by
  have G_law_take := ok_law_take (P := P) (w := w) (base := base) T
  have G_law_leaf := ok_law_leaf (P := P) (w := w) (base := base) hB T
  refine T.F_law_many.ok sc_law_many (fun vs H Q E h => ?_) (fun cdv A outer s H vs Q E hr h => ?_)
  · obtain ⟨d, n, xs, c, rfl, _⟩ := h
    rfl
  obtain ⟨d, n, xs, c, rfl, hD, hk, hc, q⟩ := h
  refine ⟨_, (pss_cons (ps_set (i := 3) sc_law_many.nd rfl (Or.inl rfl) (pe_lst pa_nil))
    (pss_cons (ps_for PassesOwn.never rfl (pi_range1 (by rfl) T.z_range (pa_cons (pe_op op_add pe_int (pe_call G_law_take (hr.mono (by omega)) (by rfl) T.m_law_take T.F_law_take.kp T.b_law_take .nil pass0 (pa_cons (pv 0) (pa_cons pe_int pa_nil)))) pa_nil)) (pg_name (i := 4) sc_law_many.nd rfl (Or.inl rfl))
    (pss_cons (ps_set (i := 5) sc_law_many.nd rfl (Or.inl rfl) (pe_call G_law_leaf (hr.mono (by omega)) (by rfl) T.m_law_leaf T.F_law_leaf.kp T.b_law_leaf .nil pass0 (pa_cons (pv 0) (pa_cons (pv 1) (pa_cons (pv 2) pa_nil)))))
    (pss_one (ps_expr (pe_bm PySem.F.plainAttrs_list PySem.F.slot_list_append PySem.F.type_list_append mt_append (pv 3) (pa_cons (pe_tup (pa_cons (pe_ix ix_list (pe_lst (pa_cons pe_str (pa_cons pe_str pa_nil))) (pe_call G_law_take (hr.mono (by omega)) (by rfl) T.m_law_take T.F_law_take.kp T.b_law_take .nil pass0 (pa_cons (pv 0) (pa_cons pe_int pa_nil))) (fun _ _ => rfl)) (pa_cons (pv 5) (pa_cons (pe_call G_law_leaf (hr.mono (by omega)) (by rfl) T.m_law_leaf T.F_law_leaf.kp T.b_law_leaf .nil pass0 (pa_cons (pv 0) (pa_cons (pv 1) (pa_cons (pv 2) pa_nil)))) pa_nil)))) pa_nil))))))
    (pss_one (ps_ret (pe_tup (pa_cons (pe_ix ix_list (pe_lst (pa_cons pe_str (pa_cons pe_str pa_nil))) (pe_call G_law_take (hr.mono (by omega)) (by rfl) T.m_law_take T.F_law_take.kp T.b_law_take .nil pass0 (pa_cons (pv 0) (pa_cons pe_int pa_nil))) (fun _ _ => rfl)) (pa_cons (pe_callTy call_tuple_of (by rfl) T.z_tuple (by decide +kernel) (pa_cons (pv 3) pa_nil)) pa_nil))))))), ?_⟩
  refine ⟨(Nat.le_of_ble_eq_true rfl), fun pp hpp => ?_⟩
  have npd := new_ne hD hpp
  have g0 := fun o => Go.new (o := o) hD hpp
  refine ⟨_, rfl, d, _, rfl, (g0 _).dr, (by decide), fun r H1 g1 r0 r1 => ?_⟩
  have e1 := g1.at hD hpp
  refine ⟨_, _, rfl, rfl, 4 + r, rfl, by omega, by omega, for_range (lo := 0) (n := (4 + r).toNat) (fun (j : Nat) (σ : L2.St) (H' : Hp) => ∃ (l : List It) (vs : List V) (y1 y2 : Option V), σ = [some (.ref d), some (.ref n), some (.int c), some (.ref pp), y1, y2] ∧ Go d H H' ∧ H' pp = some (.lst vs) ∧ Kids H' l vs ∧ l.length = j ∧ ∀ i ∈ l, Okx xs B true i ∧ i.dep = 2 ∧ i.sz = 3) ?_ ?_ ?_⟩
  · exact ⟨[], [], none, none, rfl, (g0 _).trans g1, e1, kids0, rfl, fun i h => by cases h⟩
  · rintro j σ H2 hj ⟨l, vs, y1, y2, rfl, g2, e2, hks, hl, hok⟩
    refine ⟨_, rfl, _, rfl, _, rfl, d, n, xs, c, rfl, g2.dr, hk.go g2, hc, fun v1 i1 H3 g3 hi1 ho1 hd1 hs1 => ?_⟩
    have e3 := g3.fr pp _ npd e2
    refine ⟨_, rfl, .inl ⟨rfl, _, sqd e3⟩, ?_⟩
    refine ⟨(Nat.le_of_ble_eq_true rfl), fun p4 hp4 => ?_⟩
    have g4 := fun o => Go.new (o := o) g3.dr hp4
    refine ⟨_, rfl, d, _, rfl, (g4 _).dr, (by decide), fun u H5 g5 u0 u1 => ?_⟩
    obtain ⟨wd, hw, hm⟩ := atI_map (f := V.str) (xs := ["less", "equal"]) u0 u1
    refine ⟨_, _, _, _, rfl, rfl, sqd (g5.at g3.dr hp4), hw, _, rfl, ?_⟩
    have g35 := (g4 _).trans g5
    refine ⟨_, rfl, _, rfl, _, rfl, d, n, xs, c, rfl, g5.dr, ((hk.go g2).go g3).go g35, hc, fun v2 i2 H6 g6 hi2 ho2 hd2 hs2 => ?_⟩
    refine ⟨(Nat.le_of_ble_eq_true rfl), fun p7 hp7 => ?_⟩
    have g7 := fun o => Go.new (o := o) g6.dr hp7
    have g37 := fun o => g35.trans (g6.trans (g7 o))
    have e7 := fun o => (g37 o).fr pp _ npd e3
    refine ⟨pp, _, _, rfl, rfl, e7 _, ?_, ?_⟩
    · rw [hks.1]
      exact small1000 (by omega)
    · have t8 := fun o => tp_put (o := o) (e7 (.tup [.str wd, v1, v2]))
      refine ⟨l ++ [.bin wd i1 i2], _, _, _, rfl, (g2.trans (g3.trans (g37 _))).put2 hpp npd, upd_same, ?_, ?_, ?_⟩
      · exact ((hks.mono ((g3.trans (g37 _)).tp g2.dr)).mono (t8 _)).snoc (.bin (t8 _ _ _ upd_same) ((hi1.go (g37 _) g3.dr).mono (t8 _)) ((hi2.go (g7 _) g6.dr).mono (t8 _)))
      · rw [List.length_append, hl] <;> rfl
      · intro i hi
        rcases List.mem_append.mp hi with h | h
        · exact hok i h
        · rw [List.mem_singleton.mp h]
          exact ⟨.cmp hm ho1 ho2, by rw [It.dep]; omega, by rw [It.sz]; omega⟩
  · rintro σ H2 ⟨l, vs, y1, y2, rfl, g2, e2, hks, hl, hok⟩
    refine ⟨(Nat.le_of_ble_eq_true rfl), fun p4 hp4 => ?_⟩
    have g4 := fun o => Go.new (o := o) g2.dr hp4
    refine ⟨_, rfl, d, _, rfl, (g4 _).dr, (by decide), fun u H5 g5 u0 u1 => ?_⟩
    obtain ⟨wd, hw, hm⟩ := atI_map (f := V.str) (xs := ["all", "any"]) u0 u1
    have g25 := (g4 _).trans g5
    have e5 := g25.fr pp _ npd e2
    refine ⟨_, _, _, _, rfl, rfl, sqd (g5.at g2.dr hp4), hw, _, rfl, pp, vs, rfl, .inl ⟨sqd e5, fun tp htp => ?_⟩⟩
    have gt := fun o => Go.new (o := o) g5.dr htp
    refine ⟨(Nat.le_of_ble_eq_true rfl), fun rp hrp => ?_⟩
    have gr := fun o => Go.new (o := o) (gt _).dr hrp
    have nt : tp ≠ rp := ne_of_none upd_same hrp
    have hz : szL l ≤ l.length * 3 := szL_le l fun i hi => by rw [(hok i hi).2.2]; exact Nat.le_refl 3
    have hd : depL l ≤ 2 := depL_le l fun i hi => by rw [(hok i hi).2.1]; exact Nat.le_refl 2
    have gg := fun o => g25.trans ((gt _).trans (gr o))
    exact q _ (.grp wd l) _ (g2.trans (gg _)) ((hks.mono ((gg _).tp g2.dr)).ok upd_same (by rw [upd_ne nt]; exact upd_same)) (.grp hm (by omega) fun i hi => (hok i hi).1) (by rw [It.dep]; omega) (by rw [It.sz]; omega)
end
end NL

namespace NL
open PySem PySem.Spec PyProof.Rows L2
/-! ### the written form, and its tokens -/
/-- what a name in a text is at least -/
structure Nw (z : Str) : Prop where
  wd : Wd z
  len : z.length ≤ 250
theorem Nam.nw {z : Str} (h : Nam z) : Nw z := ⟨h.wd, by have := h.len; omega⟩
def itxt (n : Int) : Str := Str.ofString (toString n)
mutual
def It.wr : It → Str
  | .num n => itxt n
  | .name x => x
  | .lit b => bstr b
  | .un w a => w ++ "(" ++ Str.join ", " [a.wr] ++ ")"
  | .dm w a n => w ++ "(" ++ Str.join ", " [a.wr, itxt n] ++ ")"
  | .bin w a b => w ++ "(" ++ Str.join ", " [a.wr, b.wr] ++ ")"
  | .tri a b c => "if" ++ "(" ++ Str.join ", " [a.wr, b.wr, c.wr] ++ ")"
  | .grp w l => w ++ "(" ++ Str.join ", " (wrL l) ++ ")"
def wrL : List It → List Str
  | [] => []
  | a :: r => a.wr :: wrL r
end
theorem wrL_map : ∀ l : List It, wrL l = l.map It.wr
  | [] => by rw [wrL]; rfl
  | a :: r => by rw [wrL, wrL_map r]; rfl
/-- rows of tokens with a comma between two of them -/
def sepF : List (List Str) → List Str
  | [] => []
  | a :: r => a ++ r.flatMap fun t => ("," : Str) :: t
theorem sepF_snoc (l : List (List Str)) (t : List Str) : sepF (l ++ [t]) = sepF l ++ (if l = [] then ([] : List Str) else [","]) ++ t := by
  cases l with
  | nil => simp [sepF]
  | cons a r => simp [sepF, List.flatMap_append]
mutual
def It.tk : It → List Str
  | .num n => [itxt n]
  | .name x => [x]
  | .lit b => [bstr b]
  | .un w a => ([w, "("] : List Str) ++ sepF [a.tk] ++ ([")"] : List Str)
  | .dm w a n => ([w, "("] : List Str) ++ sepF [a.tk] ++ ([",", itxt n] : List Str) ++ ([")"] : List Str)
  | .bin w a b => ([w, "("] : List Str) ++ sepF [a.tk, b.tk] ++ ([")"] : List Str)
  | .tri a b c => (["if", "("] : List Str) ++ sepF [a.tk, b.tk, c.tk] ++ ([")"] : List Str)
  | .grp w l => ([w, "("] : List Str) ++ sepF (tkL l) ++ ([")"] : List Str)
def tkL : List It → List (List Str)
  | [] => []
  | a :: r => a.tk :: tkL r
end
theorem tkL_map : ∀ l : List It, tkL l = l.map It.tk
  | [] => by rw [tkL]; rfl
  | a :: r => by rw [tkL, tkL_map r]; rfl
/-- behind the parts: the divisor -/
def It.tailT : It → List Str
  | .dm _ _ n => [",", itxt n]
  | _ => []
def It.tailW : It → List Str
  | .dm _ _ n => [itxt n]
  | _ => []
theorem tk_eq {i : It} (h : i.cls ≠ 0) : i.tk = ([i.word, "("] : List Str) ++ sepF (i.kids.map It.tk) ++ i.tailT ++ ([")"] : List Str) := by
  cases i with
  | num _ => exact absurd rfl h
  | name _ => exact absurd rfl h
  | lit _ => exact absurd rfl h
  | un w a => rw [It.tk]; simp [It.word, It.kids, It.tailT]
  | dm w a n => rw [It.tk]; simp [It.word, It.kids, It.tailT]
  | bin w a b => rw [It.tk]; simp [It.word, It.kids, It.tailT]
  | tri a b c => rw [It.tk]; simp [It.word, It.kids, It.tailT]
  | grp w l => rw [It.tk, tkL_map]; simp [It.word, It.kids, It.tailT]
theorem wr_eq {i : It} (h : i.cls ≠ 0) : i.wr = i.word ++ "(" ++ Str.join ", " (i.kids.map It.wr ++ i.tailW) ++ ")" := by
  cases i with
  | num _ => exact absurd rfl h
  | name _ => exact absurd rfl h
  | lit _ => exact absurd rfl h
  | un w a => rw [It.wr]; simp [It.word, It.kids, It.tailW]
  | dm w a n => rw [It.wr]; simp [It.word, It.kids, It.tailW]
  | bin w a b => rw [It.wr]; simp [It.word, It.kids, It.tailW]
  | tri a b c => rw [It.wr]; simp [It.word, It.kids, It.tailW]
  | grp w l => rw [It.wr, wrL_map]; simp [It.word, It.kids, It.tailW]
/-! ### what the tokens are worth together -/
def sub (t : Str) : Str := if t = "," then ", " else t
/-- the signs of the tokens, each comma with a space -/
def ct (ts : List Str) : List Nat := ts.flatMap fun t => (sub t).cps.toList
theorem ct_app (a b : List Str) : ct (a ++ b) = ct a ++ ct b := List.flatMap_append
theorem ct_cons (a : Str) (b : List Str) : ct (a :: b) = (sub a).cps.toList ++ ct b := rfl
theorem ct_nil : ct [] = [] := rfl
theorem join_codes : ∀ l : List Str, (Str.join "" l).cps.toList = l.flatMap fun t => t.cps.toList
  | [] => rfl
  | [x] => by
    show x.cps.toList = _
    simp
  | x :: y :: r => by
    have e : Str.join "" (x :: y :: r) = x ++ "" ++ Str.join "" (y :: r) := rfl
    rw [e, app_list, app_list, join_codes (y :: r), show ("" : Str).cps.toList = [] by decide +kernel, List.append_nil]
    rfl
theorem ct_join (ts : List Str) : (Str.join "" (ts.map sub)).cps.toList = ct ts := by
  rw [join_codes, List.flatMap_map]
  rfl
theorem sub_ne {t : Str} (h : t ≠ ",") : sub t = t := if_neg h
theorem ct_sep {f : It → List Str} {g : It → Str} : ∀ (l : List It), (∀ i ∈ l, ct (f i) = (g i).cps.toList) → ct (sepF (l.map f)) = (Str.join ", " (l.map g)).cps.toList
  | [], _ => rfl
  | [a], h => by
    show ct (f a ++ []) = (g a).cps.toList
    rw [List.append_nil]
    exact h a List.mem_cons_self
  | a :: b :: r, h => by
    have e : Str.join ", " ((a :: b :: r).map g) = g a ++ ", " ++ Str.join ", " ((b :: r).map g) := rfl
    have ih := ct_sep (b :: r) fun i hi => h i (List.mem_cons_of_mem _ hi)
    have e2 : sepF ((a :: b :: r).map f) = f a ++ ("," : Str) :: sepF ((b :: r).map f) := by
      show f a ++ ((("," : Str) :: f b) ++ _) = _
      rw [List.cons_append]
      rfl
    rw [e, app_list, app_list, e2, ct_app, h a List.mem_cons_self, ct_cons, ih]
    rw [show sub "," = ", " by decide +kernel, List.append_assoc]
theorem itxt_ne (n : Int) : itxt n ≠ "," := fun h => by
  have h44 := int_text_free' 44 ⟨by decide, by decide⟩ n
  have h2 : (44 : Nat) ∈ (itxt n).cps.toList := by rw [h]; decide +kernel
  exact h44 h2
theorem wd_ne {z : Str} (h : Wd z) : z ≠ "," := fun e => by
  rw [e] at h
  exact absurd h (by decide +kernel)
theorem word_wd {xs : List Str} {B : Nat} {b : Bool} {i : It} (h : Okx xs B b i) : Wd i.word ∧ i.word.length ≤ 6 := by
  have g : ∀ z ∈ (["number", "name", "true", "false", "abs", "not", "div", "mod", "add", "sub", "mul", "min", "max", "less", "equal", "if", "all", "any"] : List Str), Wd z ∧ z.length ≤ 6 := by decide +kernel
  refine g _ ?_
  simp only [List.mem_cons, List.not_mem_nil, or_false]
  cases h with
  | num _ => simp [It.word]
  | name _ => simp [It.word]
  | lit => rename_i b; cases b <;> simp [It.word, bstr]
  | abs _ => simp [It.word]
  | not _ => simp [It.word]
  | dm hw _ _ _ =>
    simp only [List.mem_cons, List.not_mem_nil, or_false] at hw
    rcases hw with rfl | rfl <;> simp [It.word]
  | bin hw _ _ =>
    simp only [List.mem_cons, List.not_mem_nil, or_false] at hw
    rcases hw with rfl | rfl | rfl | rfl | rfl <;> simp [It.word]
  | cmp hw _ _ =>
    simp only [List.mem_cons, List.not_mem_nil, or_false] at hw
    rcases hw with rfl | rfl <;> simp [It.word]
  | tri _ _ _ => simp [It.word]
  | grp hw _ _ =>
    simp only [List.mem_cons, List.not_mem_nil, or_false] at hw
    rcases hw with rfl | rfl <;> simp [It.word]
theorem kids_rec {xs : List Str} {B : Nat} {p : It → Prop} (leaf : ∀ b i, Okx xs B b i → i.cls = 0 → p i) (node : ∀ b i, Okx xs B b i → i.cls ≠ 0 → (∀ j ∈ i.kids, p j) → p i) {b : Bool} {i : It} (h : Okx xs B b i) : p i := by
  induction h with
  | num h => exact leaf _ _ (.num h) rfl
  | name h => exact leaf _ _ (.name h) rfl
  | lit => exact leaf _ _ .lit rfl
  | abs h ih =>
    refine node _ _ (.abs h) (by simp [It.cls]) fun j hj => ?_
    simp only [It.kids, List.mem_cons, List.not_mem_nil, or_false] at hj
    rw [hj]; exact ih
  | not h ih =>
    refine node _ _ (.not h) (by simp [It.cls]) fun j hj => ?_
    simp only [It.kids, List.mem_cons, List.not_mem_nil, or_false] at hj
    rw [hj]; exact ih
  | dm hw h h1 h2 ih =>
    refine node _ _ (.dm hw h h1 h2) (by simp [It.cls]) fun j hj => ?_
    simp only [It.kids, List.mem_cons, List.not_mem_nil, or_false] at hj
    rw [hj]; exact ih
  | bin hw h g ih jh =>
    refine node _ _ (.bin hw h g) (by simp [It.cls]) fun j hj => ?_
    simp only [It.kids, List.mem_cons, List.not_mem_nil, or_false] at hj
    rcases hj with e | e <;> rw [e] <;> assumption
  | cmp hw h g ih jh =>
    refine node _ _ (.cmp hw h g) (by simp [It.cls]) fun j hj => ?_
    simp only [It.kids, List.mem_cons, List.not_mem_nil, or_false] at hj
    rcases hj with e | e <;> rw [e] <;> assumption
  | tri h g k ih jh kh =>
    refine node _ _ (.tri h g k) (by simp [It.cls]) fun j hj => ?_
    simp only [It.kids, List.mem_cons, List.not_mem_nil, or_false] at hj
    rcases hj with e | e | e <;> rw [e] <;> assumption
  | grp hw hl h ih => exact node _ _ (.grp hw hl h) (by simp [It.cls]) (fun j hj => ih j hj)
/-- THE EQUATION: the tokens, glued, are the written form -/
theorem ct_tk {xs : List Str} {B : Nat} (hx : ∀ x ∈ xs, Nw x) {b : Bool} {i : It} (h : Okx xs B b i) : ct i.tk = i.wr.cps.toList := by
  refine kids_rec (p := fun i => ct i.tk = i.wr.cps.toList) (fun b i h h0 => ?_) (fun b i h h0 ih => ?_) h
  · cases h with
    | num _ => rw [It.tk, It.wr, ct_cons, ct_nil, List.append_nil, sub_ne (itxt_ne _)]
    | name hm => rw [It.tk, It.wr, ct_cons, ct_nil, List.append_nil, sub_ne (wd_ne (hx _ hm).wd)]
    | lit => rename_i b; cases b <;> (rw [It.tk, It.wr]; decide +kernel)
    | abs _ => cases h0
    | not _ => cases h0
    | dm _ _ _ _ => cases h0
    | bin _ _ _ => cases h0
    | cmp _ _ _ => cases h0
    | tri _ _ _ => cases h0
    | grp _ _ _ => cases h0
  · rw [tk_eq h0, wr_eq h0]
    have hs := ct_sep i.kids ih
    have hw := sub_ne (wd_ne (word_wd h).1)
    have e1 : ct ([i.word, "("] : List Str) = i.word.cps.toList ++ ("(" : Str).cps.toList := by
      rw [ct_cons, ct_cons, ct_nil, List.append_nil, hw, show sub "(" = "(" by decide +kernel]
    have e2 : ct ([")"] : List Str) = (")" : Str).cps.toList := by decide +kernel
    rw [ct_app, ct_app, ct_app, e1, e2, hs, app_list, app_list, app_list]
    congr 1
    rw [List.append_assoc]
    congr 1
    cases i with
    | dm w a n =>
      show (Str.join ", " [a.wr]).cps.toList ++ ct ([",", itxt n] : List Str) = (Str.join ", " [a.wr, itxt n]).cps.toList
      have e3 : Str.join ", " [a.wr, itxt n] = a.wr ++ ", " ++ itxt n := rfl
      have e4 : Str.join ", " [a.wr] = a.wr := rfl
      rw [e3, e4, ct_cons, ct_cons, ct_nil, sub_ne (itxt_ne n), app_list, app_list, show sub "," = ", " by decide +kernel, List.append_nil, List.append_assoc]
    | _ => simp [It.tailT, It.tailW, ct_nil]
/-! ### sizes -/
theorem itxt_len {n : Int} (h : n.natAbs < 10 ^ 61) : (itxt n).length ≤ 62 := by
  have h1 := int_text_length_le10 (by decide : 0 < 61) h
  have h2 : (itxt n).length = (toString n).length := PySem.ofString_length _
  omega
end NL

namespace NL
open PySem PySem.Spec PyProof.Rows L2
theorem sz_eq (i : It) : i.sz = 1 + szL i.kids := by
  cases i <;> simp only [It.sz, It.kids, szL] <;> omega
theorem szL_map (l : List It) : szL l = (l.map It.sz).sum := by
  induction l with
  | nil => rw [szL]; rfl
  | cons a r ih => rw [szL, ih, List.map_cons, List.sum_cons]
theorem join_len (sep : Str) : ∀ l : List Str, (Str.join sep l).length ≤ (l.map fun t => t.length + sep.length).sum
  | [] => Nat.zero_le _
  | [x] => by
    show x.length ≤ x.length + sep.length + 0
    omega
  | x :: y :: r => by
    have e : Str.join sep (x :: y :: r) = x ++ sep ++ Str.join sep (y :: r) := rfl
    have ih := join_len sep (y :: r)
    rw [e, len_app, len_app, List.map_cons, List.sum_cons]
    omega
theorem sum_le {f g : It → Nat} : ∀ l : List It, (∀ i ∈ l, f i ≤ g i) → (l.map f).sum ≤ (l.map g).sum
  | [], _ => Nat.le_refl _
  | a :: r, h => by
    rw [List.map_cons, List.map_cons, List.sum_cons, List.sum_cons]
    have h1 := h a List.mem_cons_self
    have h2 := sum_le r fun i hi => h i (List.mem_cons_of_mem _ hi)
    omega
theorem sum_mul (k : Nat) : ∀ l : List It, (l.map fun i => k * i.sz).sum = k * szL l
  | [] => by rw [szL]; rfl
  | a :: r => by rw [List.map_cons, List.sum_cons, sum_mul k r, szL, Nat.mul_add]
/-- ints of these items have short texts -/
theorem tail_len {xs : List Str} {B : Nat} (hB : B < 10 ^ 60 + 1) {b : Bool} {i : It} (h : Okx xs B b i) : (i.tailW.map fun t => t.length + 2).sum ≤ 64 ∧ i.tailT.length ≤ 2 := by
  cases h with
  | dm hw h h1 h2 =>
    rename_i n
    have hn := itxt_len (n := n) (by have e : (10 : Nat) ^ 61 = 10 * 10 ^ 60 := by decide
                                     omega)
    show (itxt n).length + 2 + 0 ≤ 64 ∧ 2 ≤ 2
    omega
  | _ => exact ⟨Nat.zero_le _, Nat.zero_le _⟩
theorem wr_len {xs : List Str} {B : Nat} (hx : ∀ x ∈ xs, Nw x) (hB : B < 10 ^ 60 + 1) {b : Bool} {i : It} (h : Okx xs B b i) : i.wr.length + 10 ≤ 300 * i.sz ∧ i.tk.length + 2 ≤ 10 * i.sz := by
  refine kids_rec (p := fun i => i.wr.length + 10 ≤ 300 * i.sz ∧ i.tk.length + 2 ≤ 10 * i.sz) (fun b i h h0 => ?_) (fun b i h h0 ih => ?_) h
  · cases h with
    | num hn =>
      rename_i n
      have hn := itxt_len (n := n) (by have e : (10 : Nat) ^ 61 = 10 * 10 ^ 60 := by decide
                                       omega)
      rw [It.wr, It.sz, It.tk, List.length_singleton]
      omega
    | name hm =>
      have := (hx _ hm).len
      rw [It.wr, It.sz, It.tk, List.length_singleton]
      omega
    | lit =>
      rename_i b
      rw [It.wr, It.sz, It.tk, List.length_singleton]
      have : (bstr b).length ≤ 10 := by cases b <;> decide +kernel
      omega
    | abs _ => cases h0
    | not _ => cases h0
    | dm _ _ _ _ => cases h0
    | bin _ _ _ => cases h0
    | cmp _ _ _ => cases h0
    | tri _ _ _ => cases h0
    | grp _ _ _ => cases h0
  · have hw := (word_wd h).2
    obtain ⟨t1, t2⟩ := tail_len hB h
    have hz := sz_eq i
    have l1 : ("(" : Str).length = 1 ∧ (")" : Str).length = 1 ∧ (", " : Str).length = 2 := by decide +kernel
    constructor
    · rw [wr_eq h0, len_app, len_app, len_app]
      have j := join_len ", " (i.kids.map It.wr ++ i.tailW)
      rw [l1.2.2, List.map_append, List.sum_append, List.map_map] at j
      have k := sum_le (f := (fun t : Str => t.length + 2) ∘ It.wr) (g := fun i => 300 * i.sz) i.kids fun i hi => by
        have := (ih i hi).1
        show i.wr.length + 2 ≤ 300 * i.sz
        omega
      rw [sum_mul] at k
      omega
    · rw [tk_eq h0, List.length_append, List.length_append, List.length_append]
      have hs : (sepF (i.kids.map It.tk)).length ≤ (i.kids.map fun i => i.tk.length + 1).sum := by
        cases i.kids with
        | nil => exact Nat.zero_le _
        | cons a r =>
          show (a.tk ++ (r.map It.tk).flatMap _).length ≤ _
          rw [List.length_append, List.length_flatMap, List.map_cons, List.sum_cons, List.map_map]
          have : ((fun a => (("," : Str) :: a).length) ∘ It.tk) = fun i : It => i.tk.length + 1 := rfl
          rw [this]
          omega
      have k := sum_le (f := fun i : It => i.tk.length + 1) (g := fun i => 10 * i.sz) i.kids fun i hi => by
        have := (ih i hi).2
        omega
      rw [sum_mul] at k
      have e1 : ([i.word, "("] : List Str).length = 2 ∧ ([")"] : List Str).length = 1 := ⟨rfl, rfl⟩
      omega
theorem log_ok {n : Int} (h : n.natAbs < 10 ^ 61) : n.natAbs.log2 < 1920 := by
  by_cases h0 : n.natAbs = 0
  · rw [h0]; decide
  · exact (Nat.log2_lt h0).mpr (Nat.lt_of_lt_of_le h (by decide))
end NL

namespace NL
open PySem PySem.Spec PyProof.Rows L2
theorem ItemIn.leaf {H : Hp} {i : It} {a : Addr} (h : ItemIn H i (.ref a)) (h3 : i.cls = 0) :
    (∃ n, i = .num n ∧ H a = some (.tup [.str "number", .int n])) ∨ (∃ x, i = .name x ∧ H a = some (.tup [.str "name", .str x])) ∨ ∃ b, i = .lit b ∧ H a = some (.tup [.str (bstr b)]) := by
  cases h with
  | num e => exact .inl ⟨_, rfl, e⟩
  | name e => exact .inr (.inl ⟨_, rfl, e⟩)
  | lit e => exact .inr (.inr ⟨_, rfl, e⟩)
  | un _ _ => cases h3
  | dm _ _ => cases h3
  | bin _ _ _ => cases h3
  | tri _ _ _ _ => cases h3
  | grp _ _ _ _ => cases h3
theorem strE {a b : Str} : decide (V.str a = V.str b) = decide (a = b) := decide_eq_decide.mpr ⟨V.str.inj, fun h => by rw [h]⟩
/-- an item that is no leaf has another word -/
theorem word_ne {xs : List Str} {B : Nat} {b : Bool} {i : It} (h : Okx xs B b i) (h0 : i.cls ≠ 0) {z : Str} (hz : z ∈ (["number", "name", "true", "false"] : List Str)) : decide (V.str i.word = V.str z) = false := by
  rw [strE]
  have c := (word_cls h).1
  have e : (i.cls == 0) = false := by simpa using h0
  rw [e] at c
  refine decide_eq_false fun q => ?_
  rw [← q] at hz
  exact absurd (show wl i.word _ = true from decide_eq_true hz) (by rw [c]; exact Bool.false_ne_true)
theorem in_divs {i : It} : (i.cls == 2) = true ↔ i.cls = 2 := by simp
section
variable {P : Program} {w : World} {K : PySem.W.Frag} {mg : Str → Option Value} {base : Heap}
/-! ### parts_in -/
def spParts : Sp := fun vs H Q _ => ∃ (v : V) (i : It) (xs : List Str) (B : Nat) (b : Bool), vs = [v] ∧ ItemIn H i v ∧ Okx xs B b i ∧ ∀ p ys H', Same H H' → H' p = some (.tup ys) → Kids H' i.kids ys → Q (.ref p) H'
/-! ### _written -/
structure Fit (xs : List Str) (B n : Nat) (b : Bool) (i : It) : Prop where
  ok : Okx xs B b i
  nm : ∀ x ∈ xs, Nw x
  bd : B < 10 ^ 60 + 1
  dp : i.dep ≤ n
  sz : i.sz ≤ 1000
theorem Fit.kid {xs : List Str} {B n : Nat} {b : Bool} {i j : It} (f : Fit xs B (n + 1) b i) (h : j ∈ i.kids) : ∃ b', Fit xs B n b' j := by
  obtain ⟨b', ho⟩ := kids_ok f.ok j h
  have h1 := depL_in h
  have h2 := @kids_dep i
  have h3 := sz_eq i
  have h4 : j.sz ≤ szL i.kids := by
    have : ∀ l : List It, j ∈ l → j.sz ≤ szL l := fun l => by
      induction l with
      | nil => intro h; cases h
      | cons a r ih =>
        intro h
        rw [szL]
        rcases List.mem_cons.mp h with e | e
        · rw [e]; omega
        · have := ih e
          omega
    exact this _ h
  have h5 := f.dp
  have h6 := f.sz
  exact ⟨b', ho, f.nm, f.bd, by omega, by omega⟩
theorem big {n : Nat} (h : n ≤ 1000000) : n ≤ sizeLine := Nat.le_trans h (by decide)
theorem big' {n : Nat} (h : n ≤ 1000000) : n < sizeLine := Nat.lt_of_le_of_lt h (by decide)
theorem strV {Q : VK} {a b : Str} {H : Hp} (h : a = b) (q : Q (.str b) H) : Q (.str a) H := by rw [h]; exact q
def spWr (n : Nat) : Sp := fun vs H Q _ => ∃ (v : V) (i : It) (xs : List Str) (B : Nat) (b : Bool), vs = [v] ∧ ItemIn H i v ∧ Fit xs B n b i ∧ ∀ H', Same H H' → Q (.str i.wr) H'
end
end NL

namespace NL
open PySem PySem.Spec PyProof.Rows L2
theorem take_sepF {l : List (List Str)} {j : Nat} {t : List Str} (h : l[j]? = some t) : sepF (l.take (j + 1)) = sepF (l.take j) ++ (List.replicate (if (0 : Int) < (0 + (j : Int)) then (1 : Int) else 0).toNat ([","] : List Str)).flatten ++ t := by
  rw [List.take_add_one, h]
  show sepF (l.take j ++ [t]) = _
  rw [sepF_snoc]
  have hj : j < l.length := (List.getElem?_eq_some_iff.mp h).1
  cases j with
  | zero => rfl
  | succ j =>
    have hne : l.take (j + 1) ≠ [] := fun e => by
      have := congrArg List.length e
      rw [List.length_take, List.length_nil] at this
      omega
    rw [if_neg hne, if_pos (by omega)]
    rfl
section
variable {P : Program} {w : World} {K : PySem.W.Frag} {mg : Str → Option Value} {base : Heap}
/-! ### _law_tokens -/
def spTokens (n : Nat) : Sp := fun vs H Q _ => ∃ (v : V) (i : It) (xs : List Str) (B : Nat) (b : Bool), vs = [v] ∧ ItemIn H i v ∧ Fit xs B n b i ∧ ∀ p H', Same H H' → H p = none → H' p = some (.lst (i.tk.map V.str)) → Q (.ref p) H'
theorem ok_law_tokens (T : Txt K mg) : ∀ n : Nat, FnOk P w K mg base CX0 (n + 2) T.a_law_tokens T.d_law_tokens P_law_tokens (spTokens n)
  | 0 => by
    have no : ∀ vs H Q E, ¬ spTokens 0 vs H Q E := fun vs H Q E ⟨v, i, xs, B, b, _, _, f, _⟩ => by
      have := dep_pos i
      have := f.dp
      omega
    exact ⟨fun vs H Q E h => absurd h (no vs H Q E), fun A outer s H args us vs Q E _ _ _ _ h => absurd h (no vs H Q E)⟩
  | n + 1 => by
    have G_law_tokens := ok_law_tokens T n
    have G_law_inner := ok_law_inner (P := P) (w := w) (base := base) T
    refine T.F_law_tokens.ok sc_law_tokens (fun vs H Q E h => ?_) (fun cdv A outer s H vs Q E hr h => ?_)
    · obtain ⟨v, i, xs, B, b, rfl, _⟩ := h
      rfl
    obtain ⟨v, i, xs, B, b, rfl, hi, hf, q⟩ := h
    obtain ⟨a, rfl⟩ := hi.ref
    obtain ⟨r, ha⟩ := hi.head
    have ho := hf.ok
    obtain ⟨c0, cn, ct_, c1, c2⟩ := word_cls ho
    have e60 : (10 : Nat) ^ 61 = 10 * 10 ^ 60 := by decide
    refine ⟨_, (pss_cons (ps_if (pt_cmpR op_eq (pe_ix ix_tup (pv 0) pe_int (fun _ _ => rfl)) pe_str (nomark _))
    (pss_one (ps_ret (pe_lst (pa_cons (pe_callTy call_str_int (by rfl) T.z_str (by decide +kernel) (pa_cons (pe_ix ix_tup (pv 0) pe_int (fun _ _ => rfl)) pa_nil)) pa_nil))))
    pss_nil)
    (pss_cons (ps_if (pt_cmpR op_eq (pe_ix ix_tup (pv 0) pe_int (fun _ _ => rfl)) pe_str (nomark _))
    (pss_one (ps_ret (pe_lst (pa_cons (pe_ix ix_tup (pv 0) pe_int (fun _ _ => rfl)) pa_nil))))
    pss_nil)
    (pss_cons (ps_if (PW.pt (pw_or (pt_cmpR op_eq (pe_ix ix_tup (pv 0) pe_int (fun _ _ => rfl)) pe_str (nomark _)) (pw_or1 (pt_cmpR op_eq (pe_ix ix_tup (pv 0) pe_int (fun _ _ => rfl)) pe_str (nomark _)))))
    (pss_one (ps_ret (pe_lst (pa_cons (pe_ix ix_tup (pv 0) pe_int (fun _ _ => rfl)) pa_nil))))
    pss_nil)
    (pss_cons (ps_set (i := 1) sc_law_tokens.nd rfl (Or.inl rfl) (pe_lst (pa_cons (pe_ix ix_tup (pv 0) pe_int (fun _ _ => rfl)) (pa_cons pe_str pa_nil))))
    (pss_cons (ps_set (i := 2) sc_law_tokens.nd rfl (Or.inl rfl) (pe_call G_law_inner (hr.mono (by omega)) (by rfl) T.m_law_inner T.F_law_inner.kp T.b_law_inner .nil pass0 (pa_cons (pv 0) pa_nil)))
    (pss_cons (ps_for PassesOwn.never rfl (pi_range1 (by rfl) T.z_range (pa_cons (pe_callB call_len_seq (by rfl) T.z_len PySem.boot_len (pa_cons (pv 2) pa_nil)) pa_nil)) (pg_name (i := 3) sc_law_tokens.nd rfl (Or.inl rfl))
    (pss_one (ps_set (i := 1) sc_law_tokens.nd rfl (Or.inl rfl) (pe_op op_cat (pe_op op_cat (pv 1) (pe_op op_rep (pe_lst (pa_cons pe_str pa_nil)) (pe_callTy call_int1 (by rfl) T.z_int (by decide +kernel) (pa_cons (pe_cmpR op_gt (pv 3) pe_int (nomark _)) pa_nil)))) (pe_call G_law_tokens (hr.mono (by omega)) (by rfl) T.m_law_tokens T.F_law_tokens.kp T.b_law_tokens .nil pass0 (pa_cons (pe_ix ix_list (pv 2) (pv 3) (fun _ _ => rfl)) pa_nil))))))
    (C8.pss_cut (ps_if (PW.pt (pw_or (pt_cmpR op_eq (pe_ix ix_tup (pv 0) pe_int (fun _ _ => rfl)) pe_str (nomark _)) (pw_or1 (pt_cmpR op_eq (pe_ix ix_tup (pv 0) pe_int (fun _ _ => rfl)) pe_str (nomark _)))))
    (pss_one (ps_set (i := 1) sc_law_tokens.nd rfl (Or.inl rfl) (pe_op op_cat (pv 1) (pe_lst (pa_cons pe_str (pa_cons (pe_callTy call_str_int (by rfl) T.z_str (by decide +kernel) (pa_cons (pe_ix ix_tup (pv 0) pe_int (fun _ _ => rfl)) pa_nil)) pa_nil))))))
    pss_nil)
    (pss_one (ps_ret (pe_op op_cat (pv 1) (pe_lst (pa_cons pe_str pa_nil)))))))))))), ?_⟩
    refine ⟨_, rfl, a, _, 0, _, rfl, rfl, sqt ha, atI0, rfl, _, rfl, ?_⟩
    by_cases h0 : i.cls = 0
    · rcases hi.leaf h0 with ⟨n, e, e1⟩ | ⟨n, e, e1⟩ | ⟨n, e, e1⟩
      · subst e
        refine ifT (by show decide (V.str ("number" : Str) = V.str ("number" : Str)) = true; decide +kernel) ?_
        have hn : n.natAbs ≤ B := by cases ho; assumption
        have hb := hf.bd
        refine ⟨_, rfl, a, _, 1, _, rfl, rfl, sqt e1, atI1, n, rfl, log_ok (by omega), (Nat.le_of_ble_eq_true rfl), fun p hp => ?_⟩
        exact q p _ (same_new hp _) hp (by rw [upd_same, It.tk]; rfl)
      · subst e
        refine ifF (by show decide (V.str ("name" : Str) = V.str ("number" : Str)) = false; decide +kernel) ?_
        refine ⟨_, rfl, a, _, 0, _, rfl, rfl, sqt ha, atI0, rfl, _, rfl, ?_⟩
        refine ifT (by show decide (V.str ("name" : Str) = V.str ("name" : Str)) = true; decide +kernel) ?_
        refine ⟨_, rfl, a, _, 1, _, rfl, rfl, sqt e1, atI1, (Nat.le_of_ble_eq_true rfl), fun p hp => ?_⟩
        exact q p _ (same_new hp _) hp (by rw [upd_same, It.tk]; rfl)
      · subst e
        refine ifF (by cases n <;> decide +kernel) ?_
        refine ⟨_, rfl, a, _, 0, _, rfl, rfl, sqt ha, atI0, rfl, _, rfl, ?_⟩
        refine ifF (by cases n <;> decide +kernel) ?_
        refine ⟨_, rfl, a, _, 0, _, rfl, rfl, sqt ha, atI0, rfl, _, rfl, ?_⟩
        refine' cutP ?f ?b
        case f =>
          intro body
          refine ite2 (fun c => iteT body) (fun c => ?_)
          refine ⟨_, rfl, a, _, 0, _, rfl, rfl, sqt ha, atI0, rfl, _, rfl, ?_⟩
          refine ite2 (fun c => body) (fun c2 => ?_)
          exfalso
          cases n
          · exact c2 (by decide +kernel)
          · exact c (by decide +kernel)
        case b =>
          refine ⟨_, rfl, a, _, 0, _, rfl, rfl, sqt ha, atI0, (Nat.le_of_ble_eq_true rfl), fun p hp => ?_⟩
          exact q p _ (same_new hp _) hp (by rw [upd_same, It.tk]; rfl)
    refine ifF (word_ne ho h0 (by decide +kernel)) ?_
    refine ⟨_, rfl, a, _, 0, _, rfl, rfl, sqt ha, atI0, rfl, _, rfl, ?_⟩
    refine ifF (word_ne ho h0 (by decide +kernel)) ?_
    refine ⟨_, rfl, a, _, 0, _, rfl, rfl, sqt ha, atI0, rfl, _, rfl, ?_⟩
    refine ifF (word_ne ho h0 (by decide +kernel)) ?_
    refine ⟨_, rfl, a, _, 0, _, rfl, rfl, sqt ha, atI0, rfl, _, rfl, ?_⟩
    refine ifF (word_ne ho h0 (by decide +kernel)) ?_
    -- found, parts
    refine ⟨_, rfl, a, _, 0, _, rfl, rfl, sqt ha, atI0, (Nat.le_of_ble_eq_true rfl), fun p1 hp1 => ?_⟩
    have s1 := fun o => same_new hp1 o
    refine ⟨_, rfl, _, i, xs, B, b, rfl, hi.mono (Tp.same (s1 _)), ho, fun lp ys H2 s2 hlp e2 hk => ?_⟩
    have hkl := kids_len ho
    have hwl := (wr_len hf.nm hf.bd ho).2
    have hz := hf.sz
    have htk := tk_eq h0
    have hlen : ∀ j ≤ i.kids.length, (sepF ((i.kids.map It.tk).take j)).length ≤ 10 * i.sz := by
      intro j hj
      have e : sepF (i.kids.map It.tk) = sepF ((i.kids.map It.tk).take j) ++ (sepF (i.kids.map It.tk)).drop (sepF ((i.kids.map It.tk).take j)).length := by
        have hpre : ∀ (l : List (List Str)) (j : Nat), sepF (l.take j) <+: sepF l := by
          intro l j
          cases l with
          | nil => rw [List.take_nil]; exact List.prefix_refl _
          | cons a r =>
            cases j with
            | zero => exact List.nil_prefix
            | succ j =>
              show a ++ (r.take j).flatMap _ <+: a ++ r.flatMap _
              refine (List.prefix_append_right_inj a).mpr ?_
              have : r.flatMap (fun t => ("," : Str) :: t) = (r.take j).flatMap (fun t => ("," : Str) :: t) ++ (r.drop j).flatMap (fun t => ("," : Str) :: t) := by
                rw [← List.flatMap_append, List.take_append_drop]
              rw [this]
              exact List.prefix_append _ _
        exact (List.prefix_iff_eq_append.mp (hpre _ j)).symm
      have l1 := congrArg List.length e
      rw [List.length_append] at l1
      have l2 := congrArg List.length htk
      rw [List.length_append, List.length_append, List.length_append] at l2
      omega
    refine ⟨_, rfl, _, _, rfl, .inl (sqd e2), ((ys.length : Nat) : Int), rfl, by omega, by rw [hk.1]; omega, for_range (lo := 0) (n := ((ys.length : Nat) : Int).toNat) (fun (j : Nat) (σ : L2.St) (H' : Hp) => ∃ (fp : Addr) (y3 : Option V), σ = [some (.ref a), some (.ref fp), some (.ref lp), y3] ∧ Same H2 H' ∧ H' fp = some (.lst ((([i.word, "("] : List Str) ++ sepF ((i.kids.map It.tk).take j)).map V.str))) ?_ ?_ ?_⟩
    · refine ⟨p1, none, rfl, Same.refl H2, ?_⟩
      rw [s2 p1 _ upd_same, List.take_zero]
      rfl
    · rintro j σ H3 hj ⟨fp, y3, rfl, s3, e3⟩
      have hj2 : j < i.kids.length := by rw [← hk.1]; omega
      have hl3 := hlen j (by omega)
      have hcl : ((List.replicate (if decide ((0 : Int) < 0 + (j : Int)) = true then (1 : Int) else 0).toNat ([V.str ","] : List V)).flatten).length ≤ 1 := by split <;> decide
      have hcm : (List.replicate (if decide ((0 : Int) < 0 + (j : Int)) = true then (1 : Int) else 0).toNat ([V.str ","] : List V)).flatten = ((List.replicate (if (0 : Int) < (0 + (j : Int)) then (1 : Int) else 0).toNat ([","] : List Str)).flatten).map V.str := by
        by_cases h : (0 : Int) < 0 + (j : Int)
        · rw [if_pos (decide_eq_true h), if_pos h]; rfl
        · rw [if_neg (by simpa using h), if_neg h]; rfl
      have hx : ys[j]? = some ys[j] := List.getElem?_eq_getElem (by rw [hk.1]; exact hj2)
      obtain ⟨kj, hkj, hin, hmem⟩ := hk.get hx
      obtain ⟨b', hf'⟩ := hf.kid hmem
      refine ⟨_, rfl, ?_⟩
      refine ⟨(Nat.le_of_ble_eq_true rfl), fun p4 hp4 => ?_⟩
      have s4 := fun o => s3.trans (same_new hp4 o)
      refine ⟨_, rfl, _, _, rfl, rfl, .inr ⟨_, rfl, p4, _, _, rfl, rfl, upd_same, ?_, ?_, ?_, fun p5 hp5 => ?_⟩⟩
      · split <;> decide
      · split <;> decide
      · have : ((if decide ((0 : Int) < 0 + (j : Int)) = true then (1 : Int) else 0).toNat) ≤ 1 := by split <;> decide
        show 1 * _ ≤ sizeLine
        exact big (by omega)
      have s5 := fun o => (s4 _).trans (same_new hp5 o)
      have e5 := fun o => ((same_new hp4 _).trans (same_new hp5 o)) fp _ e3
      refine ⟨fp, p5, _, _, rfl, rfl, e5 _, upd_same, ?_, fun p6 hp6 => ?_⟩
      · rw [List.length_map, List.length_append]
        have h1 := hcl
        have h2 : ([i.word, "("] : List Str).length = 2 := rfl
        exact big (by omega)
      have s6 := fun o => (s5 _).trans (same_new hp6 o)
      refine ⟨_, rfl, _, rfl, lp, ys, _, _, rfl, rfl, sqd ((s6 _) _ _ e2), (by rw [Int.zero_add]; exact atI_nat hx), _, kj, xs, B, b', rfl, hin.mono (Tp.same (s6 _)), hf', fun p7 H7 s7 hp7 e7 => ?_⟩
      have hl7 := (wr_len hf'.nm hf'.bd hf'.ok).2
      have hz7 := hf'.sz
      refine ⟨p6, p7, _, _, rfl, rfl, s7 _ _ upd_same, e7, ?_, fun p8 hp8 => ?_⟩
      · rw [List.length_append, List.length_map, List.length_map, List.length_append]
        have h1 := hcl
        have h2 : ([i.word, "("] : List Str).length = 2 := rfl
        exact big (by omega)
      · refine ⟨p8, _, rfl, (s6 _).trans (s7.trans (same_new hp8 _)), ?_⟩
        have ht : (i.kids.map It.tk)[j]? = some kj.tk := by rw [List.getElem?_map, hkj]; rfl
        rw [upd_same, take_sepF ht, hcm, ← List.map_append, ← List.map_append, List.append_assoc, List.append_assoc, List.append_assoc]
    · rintro σ H3 ⟨fp, y3, rfl, s3, e3⟩
      rw [show ((ys.length : Nat) : Int).toNat = (i.kids.map It.tk).length by rw [List.length_map, ← hk.1]; exact Int.toNat_natCast _, List.take_length] at e3
      have hall := hlen i.kids.length (Nat.le_refl _)
      rw [show i.kids.length = (i.kids.map It.tk).length by rw [List.length_map], List.take_length] at hall
      have h2l : ([i.word, "("] : List Str).length = 2 := rfl
      have s13 := (s1 _).trans (s2.trans s3)
      refine ⟨fun σ H4 => ∃ fp : Addr, σ = [some (.ref a), some (.ref fp), some (.ref lp), y3] ∧ Same H3 H4 ∧ H4 fp = some (.lst ((([i.word, "("] : List Str) ++ sepF (i.kids.map It.tk) ++ i.tailT).map V.str)), ?_, ?_⟩
      · by_cases h2 : i.cls = 2
        · obtain ⟨x, jt, m, e1, hj, ej⟩ := hi.divs h2
          have hm : m.natAbs ≤ B + 1 := by
            rw [ej] at ho
            cases ho; assumption
          have hb := hf.bd
          have et : i.tailT = ([",", itxt m] : List Str) := by rw [ej] <;> rfl
          have hw : i.word = "div" ∨ i.word = "mod" := by
            have c := c2
            rw [h2] at c
            have := of_decide_eq_true (show decide (i.word ∈ (["div", "mod"] : List Str)) = true from c)
            simpa using this
          refine' cutP ?f ?b
          case f =>
            intro body
            refine ⟨_, rfl, a, _, 0, _, rfl, rfl, sqt (s13 _ _ ha), atI0, rfl, _, rfl, ?_⟩
            refine ite2 (fun c => iteT body) (fun c => ?_)
            refine ⟨_, rfl, a, _, 0, _, rfl, rfl, sqt (s13 _ _ ha), atI0, rfl, _, rfl, ?_⟩
            refine ite2 (fun c => body) (fun c3 => ?_)
            exfalso
            rcases hw with h | h
            · exact c (decide_eq_true (by rw [h]))
            · exact c3 (decide_eq_true (by rw [h]))
          case b =>
            refine ⟨_, rfl, _, rfl, a, _, 2, _, rfl, rfl, sqt (s13 _ _ e1), atI2, m, rfl, log_ok (by omega), (Nat.le_of_ble_eq_true rfl), fun p4 hp4 => ?_⟩
            refine ⟨fp, p4, _, _, rfl, rfl, same_new hp4 _ _ _ e3, upd_same, ?_, fun p5 hp5 => ?_⟩
            · rw [List.length_map, List.length_append]
              show _ + 2 ≤ sizeLine
              exact big (by omega)
            · refine ⟨p5, rfl, (same_new hp4 _).trans (same_new hp5 _), ?_⟩
              rw [upd_same, et, List.map_append (l₂ := ([",", itxt m] : List Str))]
              rfl
        · have et : i.tailT = [] := by
            cases i <;> first | rfl | exact absurd rfl h2
          have hw : i.word ∉ (["div", "mod"] : List Str) := fun h => by
            have c : decide (i.word ∈ (["div", "mod"] : List Str)) = (i.cls == 2) := c2
            rw [decide_eq_true h] at c
            exact h2 (by simpa using c.symm)
          refine ⟨_, rfl, a, _, 0, _, rfl, rfl, sqt (s13 _ _ ha), atI0, rfl, _, rfl, ?_⟩
          refine ifF (by rw [strE]; exact decide_eq_false fun h => hw (by rw [h]; exact List.mem_cons_self)) ?_
          refine ⟨_, rfl, a, _, 0, _, rfl, rfl, sqt (s13 _ _ ha), atI0, rfl, _, rfl, ?_⟩
          refine ifF (by rw [strE]; exact decide_eq_false fun h => hw (by rw [h]; exact List.mem_cons_of_mem _ List.mem_cons_self)) ?_
          exact ⟨fp, rfl, Same.refl H3, by rw [et, List.append_nil]; exact e3⟩
      · rintro σ4 H4 ⟨fp, rfl, s4, e4⟩
        refine ⟨_, rfl, (Nat.le_of_ble_eq_true rfl), fun p5 hp5 => ?_⟩
        have ht := (tail_len hf.bd ho).2
        refine ⟨fp, p5, _, _, rfl, rfl, same_new hp5 _ _ _ e4, upd_same, ?_, fun p6 hp6 => ?_⟩
        · rw [List.length_map, List.length_append, List.length_append]
          show _ + 1 ≤ sizeLine
          exact big (by omega)
        · refine q p6 _ (s13.trans (s4.trans ((same_new hp5 _).trans (same_new hp6 _)))) ((s13.trans (s4.trans (same_new hp5 _))).free hp6) ?_
          rw [upd_same, htk, List.map_append (l₂ := ([")"] : List Str))]
          rfl
/-! ### _law_written: the tokens, glued -/
def spGlue : Sp := fun vs H Q _ => ∃ (p : Addr) (ts : List Str), vs = [.ref p] ∧ H p = some (.lst (ts.map V.str)) ∧ ts.length ≤ 100000 ∧ (ct ts).length ≤ 1000000 ∧ ∀ H', Same H H' → Q (.str (Str.join "" (ts.map sub))) H'
end
end NL

namespace NL
open PySem PySem.Spec PyProof.Rows L2
section
variable {P : Program} {w : World} {K : PySem.W.Frag} {mg : Str → Option Value} {base : Heap}
/-! ### write_expression, write_condition -/
/-! ### _law_great: an int of at most 60 digits, one more too -/
def spGreat : Sp := fun vs H Q _ => ∃ (d : Addr) (c : Int), vs = [.ref d, .int c] ∧ Dr H d ∧ ∀ n H', Go d H H' → n.natAbs ≤ 10 ^ 60 - 2 → Q (.int n) H'
theorem ok_law_great (T : Txt K mg) : FnOk P w K mg base CX0 2 T.a_law_great T.d_law_great P_law_great spGreat := by
  have G_law_take := ok_law_take (P := P) (w := w) (base := base) T
  refine T.F_law_great.ok sc_law_great (fun vs H Q E h => ?_) (fun cdv A outer s H vs Q E hr h => ?_)
  · obtain ⟨d, c, rfl, _⟩ := h
    rfl
  obtain ⟨d, c, rfl, hD, q⟩ := h
  refine ⟨_, (pss_cons (ps_set (i := 2) sc_law_great.nd rfl (Or.inl rfl) (pe_ix ix_list (pe_lst (pa_cons (pe_op op_mod (pe_callB (call_abs) (by rfl) T.z_abs (by decide +kernel) (pa_cons (pv 1) pa_nil)) (pe_op op_pow pe_int pe_int)) (pa_cons (pe_op op_sub (pe_op op_pow pe_int pe_int) pe_int) pa_nil))) (pe_op op_fdiv (pe_call G_law_take (hr.mono (by omega)) (by rfl) T.m_law_take T.F_law_take.kp T.b_law_take .nil pass0 (pa_cons (pv 0) (pa_cons pe_int pa_nil))) pe_int) (fun _ _ => rfl)))
    (pss_one (ps_ret (pe_ix ix_list (pe_lst (pa_cons (pv 2) (pa_cons (pe_un un_neg (pv 2)) pa_nil))) (pe_call G_law_take (hr.mono (by omega)) (by rfl) T.m_law_take T.F_law_take.kp T.b_law_take .nil pass0 (pa_cons (pv 0) (pa_cons pe_int pa_nil))) (fun _ _ => rfl))))), ?_⟩
  have p59 : (10 : Int) ^ (Int.toNat 59) = 100000000000000000000000000000000000000000000000000000000000 := by decide
  have p60 : (10 : Int) ^ (Int.toNat 60) = 1000000000000000000000000000000000000000000000000000000000000 := by decide
  have q60 : (10 : Nat) ^ 60 = 1000000000000000000000000000000000000000000000000000000000000 := by decide
  refine ⟨_, rfl, _, rfl, _, _, rfl, rfl, ⟨by decide, by decide, by decide⟩, _, _, rfl, rfl, (by show (0 : Int) < 10 ^ (Int.toNat 59); decide), _, _, rfl, rfl, ⟨by decide, by decide, by decide⟩, _, _, rfl, rfl, (Nat.le_of_ble_eq_true rfl), fun p hp => ?_⟩
  have gp := fun o => Go.new (o := o) hD hp
  refine ⟨_, rfl, d, _, rfl, (gp _).dr, (by decide), fun r H1 g1 r0 r1 => ?_⟩
  have m0 := Int.emod_nonneg (if c < 0 then -c else c) (show (10 : Int) ^ (Int.toNat 59) ≠ 0 by decide)
  have m1 := Int.emod_lt_of_pos (if c < 0 then -c else c) (show (0 : Int) < 10 ^ (Int.toNat 59) by decide)
  obtain ⟨g, hg, hgm⟩ := atI_map (f := V.int) (xs := [(if c < 0 then -c else c) % 10 ^ (Int.toNat 59), 10 ^ (Int.toNat 60) - 2]) (i := r / 3) (by omega) (by show r / 3 < 2; omega)
  refine ⟨_, _, rfl, rfl, ⟨by decide, by decide⟩, _, _, _, _, rfl, rfl, sqd (g1.at hD hp), hg, ?_⟩
  have hgb : g.natAbs ≤ 10 ^ 60 - 2 := by
    rw [p59] at m0 m1 hgm
    rw [p60] at hgm
    rw [q60]
    simp only [List.mem_cons, List.not_mem_nil, or_false] at hgm
    omega
  refine ⟨_, rfl, _, rfl, _, rfl, (Nat.le_of_ble_eq_true rfl), fun p2 hp2 => ?_⟩
  have gp2 := fun o => Go.new (o := o) g1.dr hp2
  refine ⟨_, rfl, d, _, rfl, (gp2 _).dr, (by decide), fun u H2 g2 u0 u1 => ?_⟩
  obtain ⟨z, hz, hzm⟩ := atI_map (f := V.int) (xs := [g, -g]) u0 u1
  refine ⟨_, _, _, _, rfl, rfl, sqd (g2.at g1.dr hp2), hz, q z H2 ((gp _).trans (g1.trans ((gp2 _).trans g2))) ?_⟩
  simp only [List.mem_cons, List.not_mem_nil, or_false] at hzm
  rcases hzm with e | e <;> rw [e]
  · exact hgb
  · rw [Int.natAbs_neg]; exact hgb
/-! ### _law_text_item -/
def spTextItem (K : PySem.W.Frag) (B : Nat) : Sp := fun vs H Q _ => ∃ (d n : Addr) (xs : List Str) (c : Int), vs = [.ref d, .ref n, .int c] ∧ Dr H d ∧ Keep K d H n (xs.map V.str) ∧ c.natAbs ≤ B ∧
  ∀ v i b H', Go d H H' → ItemIn H' i v → Okx xs B b i → i.dep ≤ 12 → i.sz ≤ 900 → Q v H'
theorem ok_law_text_item {B : Nat} (hB : 100 ≤ B) (T : Txt K mg) : FnOk P w K mg base CX0 15 T.a_law_text_item T.d_law_text_item P_law_text_item (spTextItem K B) := by
  have G_law_take := ok_law_take (P := P) (w := w) (base := base) T
  have G_law_leaf := ok_law_leaf (P := P) (w := w) (base := base) hB T
  have G_law_many := ok_law_many (P := P) (w := w) (base := base) hB T
  have G_law_around := ok_law_around (P := P) (w := w) (base := base) T
  have G_law_depth := ok_law_depth (P := P) (w := w) (base := base) T 12
  obtain ⟨G_law_expression, G_law_test⟩ := ok_ET (P := P) (w := w) (base := base) hB T 3
  have eE : (eT 2).1 = 41 ∧ (eT 2).2 = 223 := by decide
  refine T.F_law_text_item.ok sc_law_text_item (fun vs H Q E h => ?_) (fun cdv A outer s H vs Q E hr h => ?_)
  · obtain ⟨d, n, xs, c, rfl, _⟩ := h
    rfl
  obtain ⟨d, n, xs, c, rfl, hD, hk, hc, q⟩ := h
  refine ⟨_, (pss_cons (ps_set (i := 3) sc_law_text_item.nd rfl (Or.inl rfl) (pe_call G_law_take (hr.mono (by omega)) (by rfl) T.m_law_take T.F_law_take.kp T.b_law_take .nil pass0 (pa_cons (pv 0) (pa_cons pe_int pa_nil))))
    (pss_cons (ps_if (pt_cmpR op_eq (pv 3) pe_int (nomark _))
    (pss_one (ps_ret (pe_call G_law_many (hr.mono (by omega)) (by rfl) T.m_law_many T.F_law_many.kp T.b_law_many .nil pass0 (pa_cons (pv 0) (pa_cons (pv 1) (pa_cons (pv 2) pa_nil))))))
    pss_nil)
    (C8.pss_cut (ps_if (pt_cmpR op_eq (pe_op op_mod (pv 3) pe_int) pe_int (nomark _))
    (pss_one (ps_set (i := 4) sc_law_text_item.nd rfl (Or.inl rfl) (pe_call G_law_expression (hr.mono (by omega)) (by rfl) T.m_law_expression T.F_law_expression.kp T.b_law_expression .nil pass0 (pa_cons (pv 0) (pa_cons (pv 1) (pa_cons (pv 2) (pa_cons pe_int pa_nil)))))))
    (pss_one (ps_set (i := 4) sc_law_text_item.nd rfl (Or.inl rfl) (pe_call G_law_test (hr.mono (by omega)) (by rfl) T.m_law_test T.F_law_test.kp T.b_law_test .nil pass0 (pa_cons (pv 0) (pa_cons (pv 1) (pa_cons (pv 2) (pa_cons pe_int pa_nil))))))))
    (C8.pss_cut (ps_if (PW.pt (pw_or (pt_cmpR op_eq (pv 3) pe_int (nomark _)) (pw_or1 (pt_cmpR op_eq (pv 3) pe_int (nomark _)))))
    (pss_one (ps_set (i := 4) sc_law_text_item.nd rfl (Or.inl rfl) (pe_call G_law_around (hr.mono (by omega)) (by rfl) T.m_law_around T.F_law_around.kp T.b_law_around .nil pass0 (pa_cons (pv 4) (pa_cons (pe_call G_law_leaf (hr.mono (by omega)) (by rfl) T.m_law_leaf T.F_law_leaf.kp T.b_law_leaf .nil pass0 (pa_cons (pv 0) (pa_cons (pv 1) (pa_cons (pv 2) pa_nil)))) (pa_cons (pe_call G_law_take (hr.mono (by omega)) (by rfl) T.m_law_take T.F_law_take.kp T.b_law_take .nil pass0 (pa_cons (pv 0) (pa_cons (pe_op op_sub pe_int (pe_call G_law_depth (hr.mono (by omega)) (by rfl) T.m_law_depth T.F_law_depth.kp T.b_law_depth .nil pass0 (pa_cons (pv 4) pa_nil))) pa_nil))) (pa_cons (pe_call G_law_take (hr.mono (by omega)) (by rfl) T.m_law_take T.F_law_take.kp T.b_law_take .nil pass0 (pa_cons (pv 0) (pa_cons pe_int pa_nil))) pa_nil)))))))
    pss_nil)
    (pss_one (ps_ret (pv 4))))))), ?_⟩
  refine ⟨_, rfl, d, _, rfl, hD, (by decide), fun sh H1 g1 s0 s1 => ?_⟩
  refine ⟨_, rfl, rfl, _, rfl, ?_⟩
  refine ite2 (fun c1 => ?_) (fun c1 => ?_)
  · exact ⟨_, rfl, _, rfl, _, rfl, d, n, xs, c, rfl, g1.dr, hk.go g1, hc, fun v i H2 g2 hi ho hd hs => q v i true H2 (g1.trans g2) hi ho (by omega) (by omega)⟩
  refine ⟨fun σ H2 => ∃ (v : V) (i : It) (b : Bool), σ = [some (.ref d), some (.ref n), some (.int c), some (.int sh), some v] ∧ Go d H H2 ∧ ItemIn H2 i v ∧ Okx xs B b i ∧ i.dep ≤ 6 ∧ i.sz ≤ 300, ?_, ?_⟩
  · refine ⟨_, rfl, _, _, rfl, rfl, (by show (0 : Int) < 2; decide), rfl, _, rfl, ?_⟩
    refine ite2 (fun c2 => ?_) (fun c2 => ?_)
    · exact ⟨_, rfl, _, rfl, _, rfl, d, n, xs, c, 2, rfl, g1.dr, hk.go g1, hc, by decide, fun v i H2 g2 hi ho hd hs => ⟨v, i, false, rfl, g1.trans g2, hi, ho, Nat.le_trans (show i.dep ≤ 5 from hd) (by decide), Nat.le_trans (show i.sz ≤ 41 from hs) (by decide)⟩⟩
    · exact ⟨_, rfl, _, rfl, _, rfl, d, n, xs, c, 2, rfl, g1.dr, hk.go g1, hc, by decide, fun v i H2 g2 hi ho hd hs => ⟨v, i, true, rfl, g1.trans g2, hi, ho, show i.dep ≤ 6 from hd, Nat.le_trans (show i.sz ≤ 223 from hs) (by decide)⟩⟩
  · rintro σ2 H2 ⟨v, i, b, rfl, g2, hi, ho, hd, hs⟩
    refine ⟨fun σ H3 => ∃ (v : V) (i : It) (b : Bool), σ = [some (.ref d), some (.ref n), some (.int c), some (.int sh), some v] ∧ Go d H H3 ∧ ItemIn H3 i v ∧ Okx xs B b i ∧ i.dep ≤ 12 ∧ i.sz ≤ 900, ?_, ?_⟩
    · refine' cutP ?f ?b
      case f =>
        intro body
        refine ⟨_, rfl, rfl, _, rfl, ?_⟩
        refine ite2 (fun c => iteT body) (fun c => ?_)
        refine ⟨_, rfl, rfl, _, rfl, ?_⟩
        refine ite2 (fun c => body) (fun c3 => ?_)
        exact ⟨v, i, b, rfl, g2, hi, ho, by omega, by omega⟩
      case b =>
        refine ⟨_, rfl, _, rfl, _, rfl, _, rfl, d, n, xs, c, rfl, g2.dr, hk.go g2, hc, fun sv si H3 g3 hsi hso hsd hsz => ?_⟩
        have hi3 := hi.go g3 g2.dr
        refine ⟨_, rfl, _, rfl, v, i, xs, B, b, rfl, hi3, ho, by omega, fun H4 s4 => ?_⟩
        have hp := dep_pos i
        have g4 := g3.trans (Go.same g3.dr s4)
        refine ⟨_, _, rfl, rfl, d, _, rfl, g4.dr, (by show (0 : Int) < 13 - _; omega), fun m H5 g5 m0 m1 => ?_⟩
        refine ⟨_, rfl, d, _, rfl, g5.dr, (by decide), fun t H6 g6 t0 t1 => ?_⟩
        have g46 := g5.trans g6
        have g36 := (Go.same g3.dr s4).trans g46
        refine ⟨v, sv, i, si, xs, B, b, m, t, rfl, hi3.go g36 g3.dr, ho, hsi.go g36 g3.dr, hso, hsd, hsz, hB, by omega, ?_, fun v' i' b' H7 s7 hi' ho' hd' hs' => ?_⟩
        · have : m < 13 - (i.dep : Int) := m1
          omega
        · have : m < 13 - (i.dep : Int) := m1
          exact ⟨v', i', b', rfl, (g2.trans (g4.trans g46)).trans (Go.same g6.dr s7), hi', ho', by omega, by omega⟩
    · rintro σ3 H3 ⟨v, i, b, rfl, g3, hi, ho, hd, hs⟩
      exact ⟨_, rfl, q v i b H3 g3 hi ho hd hs⟩
end
end NL

namespace NL
open PySem PySem.Spec PyProof.Rows L2
/-! ### runs of signs -/
def tl (z : Str) : List Nat := z.cps.toList
theorem tl_len (z : Str) : (tl z).length = z.length := (len_list z).symm
theorem tl_app (a b : Str) : tl (a ++ b) = tl a ++ tl b := app_list a b
theorem tl_mk (l : List Nat) : tl ⟨l.toArray⟩ = l := rfl
theorem mk_tl (z : Str) : (⟨(tl z).toArray⟩ : Str) = z := str_ext rfl
def rn (cs l : List Nat) : Nat := (l.takeWhile fun c => decide (c ∈ cs)).length
theorem rn_nil {cs : List Nat} : rn cs [] = 0 := rfl
theorem rn_in {cs l : List Nat} {c : Nat} (h : c ∈ cs) : rn cs (c :: l) = 1 + rn cs l := by
  unfold rn
  rw [List.takeWhile_cons, if_pos (decide_eq_true h), List.length_cons, Nat.add_comm]
theorem rn_out {cs l : List Nat} {c : Nat} (h : c ∉ cs) : rn cs (c :: l) = 0 := by
  unfold rn
  rw [List.takeWhile_cons, if_neg (by rw [decide_eq_false h]; exact Bool.false_ne_true)]
  rfl
theorem rn_le (cs : List Nat) : ∀ l, rn cs l ≤ l.length
  | [] => Nat.le_refl _
  | c :: r => by
    by_cases h : c ∈ cs
    · rw [rn_in h, List.length_cons]
      have := rn_le cs r
      omega
    · rw [rn_out h]; exact Nat.zero_le _
theorem rn_app {cs : List Nat} : ∀ (l r : List Nat), (∀ c ∈ l, c ∈ cs) → rn cs (l ++ r) = l.length + rn cs r
  | [], r, _ => by rw [List.nil_append, List.length_nil, Nat.zero_add]
  | c :: l, r, h => by
    rw [List.cons_append, rn_in (h c List.mem_cons_self), rn_app l r fun x hx => h x (List.mem_cons_of_mem _ hx), List.length_cons]
    omega
theorem rn_all {cs l : List Nat} (h : ∀ c ∈ l, c ∈ cs) : rn cs l = l.length := by
  have := rn_app l [] h
  rw [List.append_nil, rn_nil] at this
  exact this
theorem rn_stop {cs : List Nat} {l : List Nat} (h : ∀ c r, l = c :: r → c ∉ cs) : rn cs l = 0 := by
  cases l with
  | nil => rfl
  | cons c r => exact rn_out (h c r rfl)
abbrev lets : List Nat := tl "abcdefghijklmnopqrstuvwxyz"
abbrev digs : List Nat := tl "0123456789"
theorem in_lets {c : Nat} : c ∈ lets ↔ 97 ≤ c ∧ c ≤ 122 := by
  have e : lets = List.range' 97 26 := by decide +kernel
  rw [e, List.mem_range'_1]
  omega
theorem in_digs {c : Nat} : c ∈ digs ↔ 48 ≤ c ∧ c ≤ 57 := by
  have e : digs = List.range' 48 10 := by decide +kernel
  rw [e, List.mem_range'_1]
  omega
theorem in_blank {c : Nat} : c ∈ tl (" " : Str) ↔ c = 32 := by
  have e : tl (" " : Str) = [32] := by decide +kernel
  rw [e, List.mem_singleton]
/-- how long the piece is that begins here -/
def pc : List Nat → Nat
  | [] => 0
  | c :: r => if c ∈ lets then rn lets (c :: r) else if c ∈ digs ∨ c = 45 then 1 + rn digs r else 1
theorem pc_pos {l : List Nat} (h : l ≠ []) : 1 ≤ pc l ∧ pc l ≤ l.length := by
  cases l with
  | nil => exact absurd rfl h
  | cons c r =>
    show 1 ≤ (if c ∈ lets then rn lets (c :: r) else if c ∈ digs ∨ c = 45 then 1 + rn digs r else 1) ∧ (if c ∈ lets then rn lets (c :: r) else if c ∈ digs ∨ c = 45 then 1 + rn digs r else 1) ≤ (c :: r).length
    have := rn_le digs r
    rw [List.length_cons]
    split
    · rename_i hc
      rw [rn_in hc]
      have := rn_le lets r
      omega
    · split <;> omega
abbrev sp : List Nat := tl (" " : Str)
/-- the tokens of what stands from `at` on (it begins with no blank), each with its column -/
inductive Toks : List Nat → Nat → List (Str × Nat) → Prop where
  | nil (n : Nat) : Toks [] n []
  | cons {l : List Nat} {n : Nat} {ts : List (Str × Nat)} : l ≠ [] → Toks ((l.drop (pc l)).drop (rn sp (l.drop (pc l)))) (n + pc l + rn sp (l.drop (pc l))) ts → Toks l n ((⟨(l.take (pc l)).toArray⟩, n + 1) :: ts)
/-- a list of tokens in the heap -/
def TokL (H : Hp) (xs : List V) (ts : List (Str × Nat)) : Prop := xs.length = ts.length ∧ ∀ (k : Nat) t, ts[k]? = some t → ∃ a, xs[k]? = some (.ref a) ∧ H a = some (.tup [.str t.1, .int (t.2 : Nat)])
def TokIn (H : Hp) (q : Addr) (ts : List (Str × Nat)) : Prop := ∃ xs, H q = some (.lst xs) ∧ TokL H xs ts
theorem TokL.mono {H H' : Hp} {xs : List V} {ts : List (Str × Nat)} (h : TokL H xs ts) (t : Tp H H') : TokL H' xs ts := ⟨h.1, fun k u e => by
  obtain ⟨a, h1, h2⟩ := h.2 k u e
  exact ⟨a, h1, t _ _ h2⟩⟩
theorem TokIn.same {H H' : Hp} {q : Addr} {ts : List (Str × Nat)} (h : TokIn H q ts) (s : Same H H') : TokIn H' q ts := by
  obtain ⟨xs, e, t⟩ := h
  exact ⟨xs, s _ _ e, t.mono (Tp.same s)⟩
theorem TokL.snoc {H : Hp} {xs : List V} {ts : List (Str × Nat)} {z : Str} {n : Nat} {a : Addr} (h : TokL H xs ts) (e : H a = some (.tup [.str z, .int (n : Nat)])) : TokL H (xs ++ [.ref a]) (ts ++ [(z, n)]) := by
  refine ⟨by rw [List.length_append, List.length_append, h.1] <;> rfl, fun k t ht => ?_⟩
  by_cases hk : k < ts.length
  · rw [List.getElem?_append_left hk] at ht
    rw [List.getElem?_append_left (by rw [h.1]; exact hk)]
    exact h.2 k t ht
  · have hk2 : k = ts.length := by
      have := (List.getElem?_eq_some_iff.mp ht).1
      rw [List.length_append, List.length_singleton] at this
      omega
    subst hk2
    rw [List.getElem?_append_right (Nat.le_refl _), Nat.sub_self] at ht
    obtain rfl : (z, n) = t := Option.some.inj ht
    exact ⟨a, by rw [List.getElem?_append_right (by rw [h.1]; exact Nat.le_refl _), h.1, Nat.sub_self] <;> rfl, e⟩
theorem TokIn.get {H : Hp} {q : Addr} {ts : List (Str × Nat)} (h : TokIn H q ts) {n : Nat} {w : Str} {r : List Str} (e : (ts.map Prod.fst).drop n = w :: r) : ∃ xs a c, H q = some (.lst xs) ∧ atI xs (n : Int) = some (.ref a) ∧ H a = some (.tup [.str w, .int c]) := by
  obtain ⟨xs, eq, t⟩ := h
  have h1 : (ts.map Prod.fst)[n]? = some w := by
    have := congrArg (fun l : List Str => l[0]?) e
    simpa using this
  rw [List.getElem?_map] at h1
  cases hn : ts[n]? with
  | none => rw [hn] at h1; cases h1
  | some u =>
    rw [hn] at h1
    obtain rfl : u.1 = w := Option.some.inj h1
    obtain ⟨a, h2, h3⟩ := t.2 n u hn
    exact ⟨xs, a, _, eq, atI_nat h2, h3⟩
theorem drop_cons {α : Type} {l : List α} {n : Nat} {c : α} {r : List α} (h : l.drop n = c :: r) : l[n]? = some c ∧ l.drop (n + 1) = r ∧ n < l.length := by
  have h1 := congrArg (fun l : List α => l[0]?) h
  have h2 := congrArg (List.drop 1) h
  refine ⟨by simpa using h1, by simpa [List.drop_drop] using h2, ?_⟩
  refine Nat.lt_of_not_le fun hle => ?_
  rw [List.drop_eq_nil_of_le hle] at h
  cases h
theorem cut_mid {z : Str} {i j : Nat} (h : i ≤ j) (h2 : j ≤ z.length) : cutS z (some (i : Int)) (some (j : Int)) = ⟨(((tl z).drop i).take (j - i)).toArray⟩ := by
  unfold cutS
  rw [show HT.sIx z.length z.length (some (j : Int)) = min j z.length from HT.sIx_nat _ _ _, show HT.sIx z.length 0 (some (i : Int)) = min i z.length from HT.sIx_nat _ _ _, Nat.min_eq_left h2, Nat.min_eq_left (Nat.le_trans h h2)]
  rfl
theorem one_str {a b : Nat} : (V.str ⟨#[a]⟩ = V.str ⟨#[b]⟩) ↔ a = b := by
  constructor
  · intro h
    have := congrArg (fun z : Str => z.cps.toList) (V.str.inj h)
    simpa using this
  · rintro rfl; rfl
section
variable {P : Program} {w : World} {K : PySem.W.Frag} {mg : Str → Option Value} {base : Heap}
/-! ### run_end -/
def spRun : Sp := fun vs H Q _ => ∃ (z cs : Str) (n : Nat), vs = [.str z, .int (n : Int), .str cs] ∧ n ≤ z.length ∧ z.length ≤ 10000000 ∧ Q (.int ((n + rn (tl cs) ((tl z).drop n) : Nat) : Int)) H
theorem szl {n : Nat} (h : n ≤ 10000000) : n ≤ sizeLine := Nat.le_trans h (by decide)
theorem ok_run_end (T : Txt K mg) : FnOk P w K mg base CX0 1 T.arun_end T.drun_end Prun_end spRun := by
  refine T.Frun_end.ok scrun_end (fun vs H Q E h => ?_) (fun cdv A outer s H vs Q E hr h => ?_)
  · obtain ⟨z, cs, n, rfl, _⟩ := h
    rfl
  obtain ⟨z, cs, n, rfl, hn, hz, q⟩ := h
  refine ⟨_, (pss_cons (ps_while PassesOwn.never (PW.pt (pw_and (pt_cmpR op_lt (pv 1) (pe_callB call_len_str (by rfl) T.z_len PySem.boot_len (pa_cons (pv 0) pa_nil)) (nomark _)) (pw_and1 (pt_cmpR op_in_sign (pe_ix ix_str (pv 0) (pv 1) (fun _ _ => rfl)) (pv 2) (by rfl)))))
    (pss_one (ps_aug (i := 1) scrun_end.nd rfl (Or.inl rfl) pe_int ip_add)))
    (pss_one (ps_ret (pv 1)))), ?_⟩
  refine ⟨fun m σ H' => ∃ k : Nat, σ = [some (.str z), some (.int (k : Int)), some (.str cs)] ∧ H' = H ∧ m = z.length - k ∧ k ≤ z.length ∧ k + rn (tl cs) ((tl z).drop k) = n + rn (tl cs) ((tl z).drop n), ⟨_, n, rfl, rfl, rfl, hn, rfl⟩, ?_⟩
  rintro m σ H' ⟨k, rfl, rfl, rfl, hk, e⟩
  refine ⟨_, rfl, _, rfl, z, rfl, szl hz, _, _, rfl, rfl, _, rfl, ?_⟩
  refine ite2 (fun c => ?_) (fun c => ?_)
  · have hk2 : k < (tl z).length := by
      have := of_decide_eq_true c
      rw [tl_len]
      omega
    obtain ⟨ch, hc⟩ : ∃ ch, (tl z).drop k = ch :: (tl z).drop (k + 1) := ⟨_, List.drop_eq_getElem_cons hk2⟩
    refine ⟨_, rfl, _, rfl, _, _, ch, rfl, rfl, szl hz, atI_nat (drop_cons hc).1, ?_⟩
    refine ⟨_, rfl, ch, cs, rfl, rfl, _, rfl, ?_⟩
    by_cases hin : ch ∈ tl cs
    · refine ifT (decide_eq_true hin) ?_
      refine ⟨fun σ' H'' => ∃ m', m' < z.length - k ∧ ∃ k : Nat, σ' = [some (.str z), some (.int (k : Int)), some (.str cs)] ∧ H'' = H' ∧ m' = z.length - k ∧ k ≤ z.length ∧ k + rn (tl cs) ((tl z).drop k) = n + rn (tl cs) ((tl z).drop n), fun _ _ h => h, ?_⟩
      refine ⟨_, rfl, _, _, rfl, rfl, ?_⟩
      rw [tl_len] at hk2
      rw [hc, rn_in hin] at e
      exact ⟨z.length - (k + 1), by omega, k + 1, by rw [Int.natCast_add] <;> rfl, rfl, rfl, by omega, by omega⟩
    · refine ifF (decide_eq_false hin) ?_
      rw [hc, rn_out hin, Nat.add_zero] at e
      refine ⟨_, rfl, ?_⟩
      rw [e]
      exact q
  · have hk2 : (tl z).drop k = [] := by
      refine List.drop_eq_nil_of_le ?_
      rw [tl_len]
      refine Nat.le_of_not_lt fun h => c (decide_eq_true ?_)
      omega
    rw [hk2, rn_nil, Nat.add_zero] at e
    refine iteF ⟨_, rfl, ?_⟩
    rw [e]
    exact q
end
end NL

namespace NL
open PySem PySem.Spec PyProof.Rows L2
/-! ### what an integer is -/
theorem szl' {n : Nat} (h : n ≤ 10000000) : n < sizeLine := Nat.lt_of_le_of_lt h (by decide)
def rmv : List Nat → List Nat
  | [] => []
  | c :: r => if c = 45 then r else c :: r
theorem rmv_eq (z : Str) : tl (Txt.removeprefix z "-") = rmv (tl z) := by
  have m : ("-" : Str).cps = #[45] := by decide +kernel
  have ml : ("-" : Str).length = 1 := by decide +kernel
  have hs : Builtin.Str.subAt z "-" 0 = decide ((tl z).take 1 = [45]) := by
    unfold Builtin.Str.subAt
    rw [m, ml, Bool.beq_eq_decide_eq]
    refine decide_eq_decide.mpr ⟨fun h => ?_, fun h => ?_⟩
    · have := congrArg Array.toList h
      rw [Array.toList_extract] at this
      exact this
    · refine Array.toList_inj.mp ?_
      rw [Array.toList_extract]
      exact h
  unfold Txt.removeprefix
  rw [hs, ml]
  cases e : tl z with
  | nil =>
    rw [if_neg (by simp)]
    exact e
  | cons c r =>
    by_cases hc : c = 45
    · subst hc
      rw [if_pos (by simp)]
      have hl : z.length = r.length + 1 := by rw [← tl_len, e, List.length_cons]
      show tl (if (z.length - 1 == z.length) = true then z else Builtin.Str.strSub z 1 z.length) = r
      rw [if_neg (by simp; omega)]
      show (z.cps.extract 1 z.length).toList = r
      rw [Array.toList_extract]
      show ((tl z).drop 1).take (z.length - 1) = r
      rw [e, hl]
      simp
    · rw [if_neg (by simp [hc])]
      show tl z = if c = 45 then r else c :: r
      rw [if_neg hc, e]
def isI (z : Str) : Bool := decide (z = "0") || (decide (¬ (rmv (tl z) = [] ∨ (rmv (tl z)).head? = some 48 ∨ 60 < (rmv (tl z)).length)) && decide (rn digs (rmv (tl z)) = (rmv (tl z)).length))
def isN (z : Str) : Bool := decide (z ≠ "") && (decide (z ∉ res) && decide (rn lets (tl z) = (tl z).length))
theorem tl_nil {z : Str} : tl z = [] ↔ z = "" := ⟨fun h => str_ext h, fun h => by rw [h]; decide +kernel⟩
theorem boolE {Q : VK} {b b' : Bool} {H : Hp} (h : b = b') (q : Q (.bl b') H) : Q (.bl b) H := by rw [h]; exact q
theorem intN {a b : Nat} : decide (V.int (a : Int) = V.int (b : Int)) = decide (a = b) := decide_eq_decide.mpr ⟨fun h => Int.ofNat.inj (V.int.inj h), fun h => by rw [h]⟩
section
variable {P : Program} {w : World} {K : PySem.W.Frag} {mg : Str → Option Value} {base : Heap}
/-! ### is_name -/
def spIsN : Sp := fun vs H Q _ => ∃ z : Str, vs = [.str z] ∧ z.length ≤ 10000000 ∧ Q (.bl (isN z)) H
theorem ok_is_name (T : Txt K mg) : FnOk P w K mg base CX0 2 T.ais_name T.dis_name Pis_name spIsN := by
  have Grun_end := ok_run_end (P := P) (w := w) (base := base) T
  refine T.Fis_name.ok scis_name (fun vs H Q E h => ?_) (fun cdv A outer s H vs Q E hr h => ?_)
  · obtain ⟨z, rfl, _⟩ := h
    rfl
  obtain ⟨z, rfl, hz, q⟩ := h
  refine ⟨_, (pss_one (ps_ret (pe_and (pe_cmpR op_ne (pv 0) pe_str (nomark _)) (pe_and (pe_cmpR op_notIn_seq (pv 0) (pe_glob (v := .ref T.c_WORDS) rfl T.g_WORDS rfl) (by rfl)) (pe_one (pe_cmpR op_eq (pe_call Grun_end (hr.mono (by omega)) (by rfl) T.mrun_end T.Frun_end.kp T.brun_end .nil pass0 (pa_cons (pv 0) (pa_cons pe_int (pa_cons (pe_glob rfl T.g_LETTERS T.r_LETTERS) pa_nil)))) (pe_callB call_len_str (by rfl) T.z_len PySem.boot_len (pa_cons (pv 0) pa_nil)) (nomark _))))))), ?_⟩
  refine ⟨_, rfl, rfl, _, rfl, ?_⟩
  refine ite2 (fun c => ?_) (fun c => ?_)
  · have h1 : z ≠ "" := fun e => by
      rw [e] at c
      revert c
      decide +kernel
    refine ⟨_, rfl, T.c_WORDS, _, rfl, .inr (.inr T.k_WORDS), rfl, by decide +kernel, _, rfl, ?_⟩
    rw [if_pos rfl, show [V.str "true", V.str "false", V.str "add", V.str "sub", V.str "mul", V.str "div", V.str "mod", V.str "min", V.str "max", V.str "abs", V.str "if", V.str "less", V.str "equal", V.str "not", V.str "all", V.str "any"] = res.map V.str from rfl, inV_str]
    refine ite2 (fun c2 => ?_) (fun c2 => ?_)
    · have h2 : z ∉ res := fun h => by
        rw [decide_eq_true h] at c2
        cases c2
      refine ⟨_, rfl, z, _, 0, rfl, Nat.zero_le _, hz, _, rfl, z, rfl, szl hz, rfl, ?_⟩
      refine boolE ?_ q
      rw [intN]
      unfold isN
      rw [decide_eq_true h1, decide_eq_true h2, Bool.true_and, Bool.true_and, Nat.zero_add, List.drop_zero, tl_len]
    · have h2 : z ∈ res := Decidable.byContradiction fun h => c2 (by rw [decide_eq_false h] <;> rfl)
      refine boolE ?_ q
      unfold isN
      rw [decide_eq_true h1, decide_eq_false (fun h => h h2), Bool.false_and, Bool.and_false]
  · refine boolE ?_ q
    have h1 : z = "" := Decidable.byContradiction fun h => c (by
      show (!decide (V.str z = V.str "")) = true
      rw [strE, decide_eq_false h]
      rfl)
    unfold isN
    rw [decide_eq_false (fun h => h h1), Bool.false_and]
/-! ### is_integer -/
def spIsI : Sp := fun vs H Q _ => ∃ z : Str, vs = [.str z] ∧ z.length ≤ 10000000 ∧ Q (.bl (isI z)) H
theorem isI_bad {z : Str} (h0 : z ≠ "0") (h : rmv (tl z) = [] ∨ (rmv (tl z)).head? = some 48 ∨ 60 < (rmv (tl z)).length) : false = isI z := by
  unfold isI
  rw [decide_eq_false h0, decide_eq_false (fun g => g h), Bool.false_or, Bool.false_and]
theorem ok_is_integer (T : Txt K mg) : FnOk P w K mg base CX0 2 T.ais_integer T.dis_integer Pis_integer spIsI := by
  have Grun_end := ok_run_end (P := P) (w := w) (base := base) T
  refine T.Fis_integer.ok scis_integer (fun vs H Q E h => ?_) (fun cdv A outer s H vs Q E hr h => ?_)
  · obtain ⟨z, rfl, _⟩ := h
    rfl
  obtain ⟨z, rfl, hz, q⟩ := h
  refine ⟨_, (pss_cons (ps_if (pt_cmpR op_eq (pv 0) pe_str (nomark _))
    (pss_one (ps_ret pe_bl))
    pss_nil)
    (pss_cons (ps_set (i := 1) scis_integer.nd rfl (Or.inl rfl) (pe_bm PySem.F.plainAttrs_str PySem.F.slot_str_removeprefix PySem.F.type_str_removeprefix mt_removeprefix (pv 0) (pa_cons pe_str pa_nil)))
    (pss_cons (ps_if (PW.pt (pw_or (pt_cmpR op_eq (pv 1) pe_str (nomark _)) (pw_or (pt_cmpR op_eq (pe_ix ix_str (pv 1) pe_int (fun _ _ => rfl)) pe_str (nomark _)) (pw_or1 (pt_cmpR op_gt (pe_callB call_len_str (by rfl) T.z_len PySem.boot_len (pa_cons (pv 1) pa_nil)) (pe_glob rfl T.g_MOST_DIGITS T.r_MOST_DIGITS) (nomark _))))))
    (pss_one (ps_ret pe_bl))
    pss_nil)
    (pss_one (ps_ret (pe_cmpR op_eq (pe_call Grun_end (hr.mono (by omega)) (by rfl) T.mrun_end T.Frun_end.kp T.brun_end .nil pass0 (pa_cons (pv 1) (pa_cons pe_int (pa_cons (pe_glob rfl T.g_DIGITS T.r_DIGITS) pa_nil)))) (pe_callB call_len_str (by rfl) T.z_len PySem.boot_len (pa_cons (pv 1) pa_nil)) (nomark _))))))), ?_⟩
  refine ⟨_, rfl, rfl, _, rfl, ?_⟩
  rw [strE]
  refine ite2 (fun c => ?_) (fun c => ?_)
  · refine boolE ?_ q
    unfold isI
    rw [c, Bool.true_or]
  have h0 : z ≠ "0" := fun h => c (decide_eq_true h)
  refine ⟨_, rfl, rfl, _, _, rfl, rfl, szl hz, ?_⟩
  have hd : tl (Txt.removeprefix z "-") = rmv (tl z) := rmv_eq z
  generalize Txt.removeprefix z "-" = d at hd
  have hdl : d.length ≤ 10000000 := by
    rw [← tl_len, hd]
    refine Nat.le_trans ?_ hz
    rw [← tl_len]
    cases tl z with
    | nil => exact Nat.le_refl _
    | cons c r =>
      show (if c = 45 then r else c :: r).length ≤ _
      split
      · rw [List.length_cons]; omega
      · exact Nat.le_refl _
  refine ⟨_, rfl, rfl, _, rfl, ?_⟩
  rw [strE]
  refine ite2 (fun c1 => iteT ?_) (fun c1 => ?_)
  · refine boolE (isI_bad h0 (.inl ?_)) q
    rw [← hd, of_decide_eq_true c1]
    decide +kernel
  have hne : tl d ≠ [] := fun h => c1 (decide_eq_true (tl_nil.mp h))
  obtain ⟨ch, r, hcr⟩ : ∃ ch r, tl d = ch :: r := by
    cases e : tl d with
    | nil => exact absurd e hne
    | cons a b => exact ⟨a, b, rfl⟩
  refine ⟨_, rfl, _, _, ch, rfl, rfl, szl hdl, ?_, rfl, _, rfl, ?_⟩
  · show atI (tl d) 0 = some ch
    rw [hcr]
    exact atI0
  have e48 : ("0" : Str) = ⟨#[48]⟩ := by decide +kernel
  rw [e48, show decide (V.str ⟨#[ch]⟩ = V.str ⟨#[48]⟩) = decide (ch = 48) from decide_eq_decide.mpr one_str]
  refine ite2 (fun c2 => iteT ?_) (fun c2 => ?_)
  · refine boolE (isI_bad h0 (.inr (.inl ?_))) q
    rw [← hd, hcr, of_decide_eq_true c2]
    rfl
  refine ⟨_, rfl, d, rfl, szl hdl, _, _, rfl, rfl, _, rfl, ?_⟩
  refine ite2 (fun c3 => ?_) (fun c3 => ?_)
  · refine boolE (isI_bad h0 (.inr (.inr ?_))) q
    have := of_decide_eq_true c3
    rw [← hd, tl_len]
    omega
  refine ⟨_, rfl, d, _, 0, rfl, Nat.zero_le _, hdl, _, rfl, d, rfl, szl hdl, rfl, ?_⟩
  refine boolE ?_ q
  have good : ¬ (tl d = [] ∨ (tl d).head? = some 48 ∨ 60 < (tl d).length) := by
    rintro (h | h | h)
    · exact hne h
    · rw [hcr] at h
      exact c2 (decide_eq_true (Option.some.inj h))
    · rw [tl_len] at h
      refine c3 (decide_eq_true ?_)
      show (60 : Int) < (d.length : Int)
      omega
  rw [intN]
  unfold isI
  rw [decide_eq_false h0, Bool.false_or, ← hd, decide_eq_true good, Bool.true_and, Nat.zero_add, List.drop_zero, tl_len]
/-! ### _piece_end -/
def spPiece : Sp := fun vs H Q _ => ∃ (z : Str) (n : Nat), vs = [.str z, .int (n : Int)] ∧ n < z.length ∧ z.length ≤ 10000000 ∧ Q (.int ((n + pc ((tl z).drop n) : Nat) : Int)) H
theorem ok_piece_end (T : Txt K mg) : FnOk P w K mg base CX0 2 T.a_piece_end T.d_piece_end P_piece_end spPiece := by
  have Grun_end := ok_run_end (P := P) (w := w) (base := base) T
  refine T.F_piece_end.ok sc_piece_end (fun vs H Q E h => ?_) (fun cdv A outer s H vs Q E hr h => ?_)
  · obtain ⟨z, n, rfl, _⟩ := h
    rfl
  obtain ⟨z, n, rfl, hn, hz, q⟩ := h
  refine ⟨_, (pss_cons (ps_if (pt_cmpR op_in_sign (pe_ix ix_str (pv 0) (pv 1) (fun _ _ => rfl)) (pe_glob rfl T.g_LETTERS T.r_LETTERS) (by rfl))
    (pss_one (ps_ret (pe_call Grun_end (hr.mono (by omega)) (by rfl) T.mrun_end T.Frun_end.kp T.brun_end .nil pass0 (pa_cons (pv 0) (pa_cons (pv 1) (pa_cons (pe_glob rfl T.g_LETTERS T.r_LETTERS) pa_nil))))))
    pss_nil)
    (pss_cons (ps_if (PW.pt (pw_or (pt_cmpR op_in_sign (pe_ix ix_str (pv 0) (pv 1) (fun _ _ => rfl)) (pe_glob rfl T.g_DIGITS T.r_DIGITS) (by rfl)) (pw_or1 (pt_cmpR op_eq (pe_ix ix_str (pv 0) (pv 1) (fun _ _ => rfl)) pe_str (nomark _)))))
    (pss_one (ps_ret (pe_call Grun_end (hr.mono (by omega)) (by rfl) T.mrun_end T.Frun_end.kp T.brun_end .nil pass0 (pa_cons (pv 0) (pa_cons (pe_op op_add (pv 1) pe_int) (pa_cons (pe_glob rfl T.g_DIGITS T.r_DIGITS) pa_nil))))))
    pss_nil)
    (pss_one (ps_ret (pe_op op_add (pv 1) pe_int))))), ?_⟩
  obtain ⟨ch, hc⟩ : ∃ ch, (tl z).drop n = ch :: (tl z).drop (n + 1) := ⟨_, List.drop_eq_getElem_cons (by rw [tl_len]; exact hn)⟩
  have hat : atI z.cps.toList (n : Int) = some ch := atI_nat (drop_cons hc).1
  have hpc : pc ((tl z).drop n) = if ch ∈ lets then rn lets ((tl z).drop n) else if ch ∈ digs ∨ ch = 45 then 1 + rn digs ((tl z).drop (n + 1)) else 1 := by
    rw [hc] <;> rfl
  refine ⟨_, rfl, _, rfl, _, _, ch, rfl, rfl, szl hz, hat, ch, _, rfl, rfl, _, rfl, ?_⟩
  refine ite2 (fun c => ?_) (fun c => ?_)
  · have h1 : ch ∈ lets := of_decide_eq_true c
    rw [if_pos h1] at hpc
    refine ⟨_, rfl, _, rfl, z, _, n, rfl, Nat.le_of_lt hn, hz, ?_⟩
    rw [hpc] at q
    exact q
  have h1 : ch ∉ lets := fun h => c (decide_eq_true h)
  rw [if_neg h1] at hpc
  have e45 : ("-" : Str) = ⟨#[45]⟩ := by decide +kernel
  by_cases hd : ch ∈ digs ∨ ch = 45
  · rw [if_pos hd] at hpc
    rw [hpc, ← Nat.add_assoc] at q
    refine' cutP ?f ?b
    case f =>
      intro body
      refine ⟨_, rfl, _, rfl, _, _, ch, rfl, rfl, szl hz, hat, ch, _, rfl, rfl, _, rfl, ?_⟩
      refine ite2 (fun c2 => iteT body) (fun c2 => ?_)
      refine ⟨_, rfl, _, rfl, _, _, ch, rfl, rfl, szl hz, hat, rfl, _, rfl, ?_⟩
      rw [e45, show decide (V.str ⟨#[ch]⟩ = V.str ⟨#[45]⟩) = decide (ch = 45) from decide_eq_decide.mpr one_str]
      exact ifT (decide_eq_true (hd.resolve_left fun h => c2 (decide_eq_true h))) body
    case b =>
      exact ⟨_, rfl, _, rfl, _, _, rfl, rfl, z, _, n + 1, rfl, hn, hz, q⟩
  · rw [if_neg hd] at hpc
    rw [hpc] at q
    refine ⟨_, rfl, _, rfl, _, _, ch, rfl, rfl, szl hz, hat, ch, _, rfl, rfl, _, rfl, ?_⟩
    refine ifF (decide_eq_false fun h => hd (.inl h)) ?_
    refine ⟨_, rfl, _, rfl, _, _, ch, rfl, rfl, szl hz, hat, rfl, _, rfl, ?_⟩
    rw [e45, show decide (V.str ⟨#[ch]⟩ = V.str ⟨#[45]⟩) = decide (ch = 45) from decide_eq_decide.mpr one_str]
    exact ifF (decide_eq_false fun h => hd (.inr h)) ⟨_, rfl, _, _, rfl, rfl, q⟩
/-! ### tokens_of -/
def spToksOf : Sp := fun vs H Q _ => ∃ (z : Str) (ts : List (Str × Nat)), vs = [.str z] ∧ z.length ≤ 10000000 ∧ Toks ((tl z).drop (rn sp (tl z))) (rn sp (tl z)) ts ∧
  ∀ q H', Same H H' → H q = none → TokIn H' q (ts ++ [(("" : Str), z.length + 1)]) → Q (.ref q) H'
theorem ok_tokens_of (T : Txt K mg) : FnOk P w K mg base CX0 3 T.atokens_of T.dtokens_of Ptokens_of spToksOf := by
  have Grun_end := ok_run_end (P := P) (w := w) (base := base) T
  have G_piece_end := ok_piece_end (P := P) (w := w) (base := base) T
  refine T.Ftokens_of.ok sctokens_of (fun vs H Q E h => ?_) (fun cdv A outer s H vs Q E hr h => ?_)
  · obtain ⟨z, ts, rfl, _⟩ := h
    rfl
  obtain ⟨z, ts, rfl, hz, ht, q⟩ := h
  refine ⟨_, (pss_cons (ps_set (i := 1) sctokens_of.nd rfl (Or.inl rfl) (pe_lst pa_nil))
    (pss_cons (ps_set (i := 2) sctokens_of.nd rfl (Or.inl rfl) (pe_call Grun_end (hr.mono (by omega)) (by rfl) T.mrun_end T.Frun_end.kp T.brun_end .nil pass0 (pa_cons (pv 0) (pa_cons pe_int (pa_cons pe_str pa_nil)))))
    (pss_cons (ps_while PassesOwn.never (pt_cmpR op_lt (pv 2) (pe_callB call_len_str (by rfl) T.z_len PySem.boot_len (pa_cons (pv 0) pa_nil)) (nomark _))
    (pss_cons (ps_set (i := 3) sctokens_of.nd rfl (Or.inl rfl) (pe_call G_piece_end (hr.mono (by omega)) (by rfl) T.m_piece_end T.F_piece_end.kp T.b_piece_end .nil pass0 (pa_cons (pv 0) (pa_cons (pv 2) pa_nil))))
    (pss_cons (ps_expr (pe_bm PySem.F.plainAttrs_list PySem.F.slot_list_append PySem.F.type_list_append mt_append (pv 1) (pa_cons (pe_tup (pa_cons (pe_slice sl_str (pv 0) (po_some (pv 2)) (po_some (pv 3))) (pa_cons (pe_op op_add (pv 2) pe_int) pa_nil))) pa_nil)))
    (pss_one (ps_set (i := 2) sctokens_of.nd rfl (Or.inl rfl) (pe_call Grun_end (hr.mono (by omega)) (by rfl) T.mrun_end T.Frun_end.kp T.brun_end .nil pass0 (pa_cons (pv 0) (pa_cons (pv 3) (pa_cons pe_str pa_nil)))))))))
    (pss_cons (ps_expr (pe_bm PySem.F.plainAttrs_list PySem.F.slot_list_append PySem.F.type_list_append mt_append (pv 1) (pa_cons (pe_tup (pa_cons pe_str (pa_cons (pe_op op_add (pe_callB call_len_str (by rfl) T.z_len PySem.boot_len (pa_cons (pv 0) pa_nil)) pe_int) pa_nil))) pa_nil)))
    (pss_one (ps_ret (pv 1))))))), ?_⟩
  refine ⟨(by decide), fun D hD => ?_⟩
  refine ⟨_, rfl, z, _, 0, rfl, Nat.zero_le _, hz, ?_⟩
  rw [Nat.zero_add, List.drop_zero]
  refine ⟨fun m σ H' => ∃ (k : Nat) (y : Option V) (acc rest : List (Str × Nat)) (xs : List V), σ = [some (.str z), some (.ref D), some (.int (k : Int)), y] ∧ Same H H' ∧ H' D = some (.lst xs) ∧ TokL H' xs acc ∧
    acc ++ rest = ts ∧ Toks ((tl z).drop k) k rest ∧ k ≤ z.length ∧ acc.length ≤ k ∧ m = z.length - k, ⟨_, rn sp (tl z), none, [], ts, [], rfl, same_new hD _, upd_same, ⟨rfl, fun k t h => by simp at h⟩, rfl, ht, ?_, Nat.zero_le _, rfl⟩, ?_⟩
  · rw [← tl_len]; exact rn_le _ _
  rintro m σ H' ⟨k, y, acc, rest, xs, rfl, s1, e1, t1, ea, hT, hk, ha, rfl⟩
  refine ⟨_, rfl, _, rfl, z, rfl, szl hz, _, _, rfl, rfl, _, rfl, ?_⟩
  refine ite2 (fun c => ?_) (fun c => ?_)
  · have hk2 : k < z.length := by
      have := of_decide_eq_true c
      omega
    refine ⟨fun σ' H'' => ∃ m', m' < z.length - k ∧ ∃ (k : Nat) (y : Option V) (acc rest : List (Str × Nat)) (xs : List V), σ' = [some (.str z), some (.ref D), some (.int (k : Int)), y] ∧ Same H H'' ∧ H'' D = some (.lst xs) ∧ TokL H'' xs acc ∧
      acc ++ rest = ts ∧ Toks ((tl z).drop k) k rest ∧ k ≤ z.length ∧ acc.length ≤ k ∧ m' = z.length - k, fun _ _ h => h, ?_⟩
    have hne : (tl z).drop k ≠ [] := fun h => by
      have := congrArg List.length h
      rw [List.length_drop, tl_len, List.length_nil] at this
      omega
    obtain ⟨p1, p2⟩ := pc_pos hne
    rw [List.length_drop, tl_len] at p2
    refine ⟨_, rfl, _, rfl, z, k, rfl, hk2, hz, ?_⟩
    generalize hl : (tl z).drop k = l at *
    cases hT with
    | nil => exact absurd rfl hne
    | cons h0 hT =>
      rename_i rest
      have hdr : ∀ j, l.drop j = (tl z).drop (k + j) := fun j => by rw [← hl, List.drop_drop]
      refine ⟨_, rfl, .inl ⟨rfl, _, sqd e1⟩, _, rfl, _, rfl, k, rfl, _, rfl, ((k + pc l : Nat) : Int), rfl, z, rfl, szl hz, _, rfl, _, _, rfl, rfl, (Nat.le_of_ble_eq_true rfl), fun p hp => ?_⟩
      have np : D ≠ p := ne_of_none e1 hp
      refine ⟨D, _, _, rfl, rfl, by rw [upd_ne np]; exact e1, ?_, ?_⟩
      · rw [t1.1]
        exact szl' (by omega)
      have t2 : TokL (upd H' p (.tup [.str (cutS z (some (k : Int)) (some ((k + pc l : Nat) : Int))), .int ((k : Int) + 1)])) (xs ++ [.ref p]) (acc ++ [(⟨(l.take (pc l)).toArray⟩, k + 1)]) := by
        refine (t1.mono (Tp.same (same_new hp _))).snoc ?_
        rw [upd_same, cut_mid (by omega) (by omega), hl, Nat.add_sub_cancel_left]
        rfl
      refine ⟨_, rfl, _, rfl, z, _, k + pc l, rfl, by omega, hz, ?_⟩
      have hrn := rn_le sp ((tl z).drop (k + pc l))
      rw [List.length_drop, tl_len] at hrn
      refine ⟨z.length - (k + pc l + rn sp ((tl z).drop (k + pc l))), by omega, k + pc l + rn sp ((tl z).drop (k + pc l)), _, acc ++ [(⟨(l.take (pc l)).toArray⟩, k + 1)], rest, xs ++ [.ref p], rfl, ?_, upd_same, t2.mono (tp_put (by rw [upd_ne np]; exact e1)), ?_, ?_, by omega, ?_, rfl⟩
      · refine same_put (s1.trans (same_new hp _)) hD
      · rw [List.append_assoc]
        exact ea
      · rw [hdr, List.drop_drop] at hT
        exact hT
      · rw [List.length_append, List.length_singleton]
        omega
  · have hk2 : (tl z).drop k = [] := by
      refine List.drop_eq_nil_of_le ?_
      rw [tl_len]
      refine Nat.le_of_not_lt fun h => c (decide_eq_true ?_)
      omega
    rw [hk2] at hT
    have hr0 : rest = [] := by
      cases hT with
      | nil => rfl
      | cons h _ => exact absurd rfl h
    subst hr0
    rw [List.append_nil] at ea
    subst ea
    refine ⟨_, rfl, .inl ⟨rfl, _, sqd e1⟩, _, rfl, z, rfl, szl hz, _, _, rfl, rfl, (Nat.le_of_ble_eq_true rfl), fun p hp => ?_⟩
    have np : D ≠ p := ne_of_none e1 hp
    refine ⟨D, _, _, rfl, rfl, by rw [upd_ne np]; exact e1, ?_, ?_⟩
    · rw [t1.1]
      exact szl' (by omega)
    refine ⟨_, rfl, ?_⟩
    refine q D _ (same_put (s1.trans (same_new hp _)) hD) hD ⟨_, upd_same, ?_⟩
    refine TokL.mono ?_ (tp_put (by rw [upd_ne np]; exact e1))
    refine (t1.mono (Tp.same (same_new hp _))).snoc ?_
    rw [upd_same]
    rfl
end
end NL

namespace NL
open PySem PySem.Spec PyProof.Rows L2
/-! ### the codes of an int's text -/
theorem itxt_nat (m : Nat) : tl (itxt (m : Int)) = TL.numL m := by
  show (Str.ofString (toString (m : Int))).cps.toList = _
  rw [show (Str.ofString (toString (m : Int))).cps.toList = (toString (m : Int)).toList.map Char.toNat from TL.tl_ofString _]
  show List.map Char.toNat (Nat.repr m).toList = _
  unfold Nat.repr TL.numL
  simp
theorem itxt_neg (m : Nat) : tl (itxt (-((m : Int) + 1))) = 45 :: TL.numL (m + 1) := by
  have e : (-((m : Int) + 1)) = Int.negSucc m := by omega
  rw [e]
  show (Str.ofString (toString (Int.negSucc m))).cps.toList = _
  rw [show (Str.ofString (toString (Int.negSucc m))).cps.toList = (toString (Int.negSucc m)).toList.map Char.toNat from TL.tl_ofString _]
  show List.map Char.toNat ("-" ++ Nat.repr (m + 1)).toList = _
  unfold Nat.repr TL.numL
  simp
theorem numL_digs {m : Nat} : ∀ c ∈ TL.numL m, c ∈ digs := fun c h => in_digs.mpr (TL.numL_digits m c h)
theorem numL_head : ∀ (m : Nat), 0 < m → ∃ c r, TL.numL m = c :: r ∧ c ≠ 48 := by
  intro m
  induction m using Nat.strongRecOn with
  | ind m ih =>
    intro h
    by_cases hm : 10 ≤ m
    · obtain ⟨c, r, e, hc⟩ := ih (m / 10) (by omega) (by omega)
      rw [TL.numL_step hm, e]
      exact ⟨c, r ++ [48 + m % 10], rfl, hc⟩
    · refine ⟨48 + m, [], ?_, by omega⟩
      have : m = 1 ∨ m = 2 ∨ m = 3 ∨ m = 4 ∨ m = 5 ∨ m = 6 ∨ m = 7 ∨ m = 8 ∨ m = 9 := by omega
      rcases this with rfl | rfl | rfl | rfl | rfl | rfl | rfl | rfl | rfl <;> decide +kernel
theorem int_two (n : Int) : (∃ m : Nat, n = m) ∨ ∃ m : Nat, n = -((m : Int) + 1) := by
  rcases Int.lt_or_le n 0 with h | h
  · exact .inr ⟨(-n - 1).toNat, by omega⟩
  · exact .inl ⟨n.toNat, by omega⟩
theorem isI_itxt {n : Int} (h : n.natAbs < 10 ^ 60) : isI (itxt n) = true := by
  unfold isI
  rcases int_two n with ⟨m, rfl⟩ | ⟨m, rfl⟩
  · by_cases h0 : m = 0
    · subst h0
      rw [decide_eq_true (show itxt ((0 : Nat) : Int) = "0" by decide +kernel), Bool.true_or]
    · obtain ⟨c, r, e, hc⟩ := numL_head m (by omega)
      have hd := numL_digs (m := m)
      have hl := TL.numL_len (n := m) (k := 60) (by decide) (by omega)
      rw [itxt_nat]
      have hr : rmv (TL.numL m) = TL.numL m := by
        rw [e] at hd ⊢
        have := in_digs.mp (hd c List.mem_cons_self)
        show (if c = 45 then r else c :: r) = _
        rw [if_neg (by omega)]
      have good : ¬ (TL.numL m = [] ∨ (TL.numL m).head? = some 48 ∨ 60 < (TL.numL m).length) := by
        rintro (h | h | h)
        · rw [e] at h; cases h
        · rw [e] at h; exact hc (Option.some.inj h)
        · omega
      rw [hr, rn_all hd, decide_eq_true good, decide_eq_true (rfl : (TL.numL m).length = _), Bool.and_self, Bool.or_true]
  · obtain ⟨c, r, e, hc⟩ := numL_head (m + 1) (by omega)
    have hd := numL_digs (m := m + 1)
    have hl := TL.numL_len (n := m + 1) (k := 60) (by decide) (by omega)
    rw [itxt_neg]
    have hr : rmv (45 :: TL.numL (m + 1)) = TL.numL (m + 1) := by
      show (if 45 = 45 then TL.numL (m + 1) else 45 :: TL.numL (m + 1)) = _
      rw [if_pos rfl]
    have good : ¬ (TL.numL (m + 1) = [] ∨ (TL.numL (m + 1)).head? = some 48 ∨ 60 < (TL.numL (m + 1)).length) := by
      rintro (h | h | h)
      · rw [e] at h; cases h
      · rw [e] at h; exact hc (Option.some.inj h)
      · omega
    rw [hr, rn_all hd, decide_eq_true good, decide_eq_true (rfl : (TL.numL (m + 1)).length = _), Bool.and_self, Bool.or_true]
theorem int_read {n : Int} (h : n.natAbs < 10 ^ 60) : intText? (itxt n) = some n ∧ (itxt n).length ≤ 61 := by
  rcases int_two n with ⟨m, rfl⟩ | ⟨m, rfl⟩
  · have hl := TL.numL_len (n := m) (k := 60) (by decide) (by omega)
    have hlen : (itxt (m : Int)).length ≤ 61 := by
      rw [← tl_len, itxt_nat]
      omega
    refine ⟨?_, hlen⟩
    have := intText_digits (x := itxt (m : Int)) (by show NumText.AllDigits (tl (itxt (m : Int))); rw [itxt_nat]; exact TL.numL_digits m) (by show tl (itxt (m : Int)) ≠ []; rw [itxt_nat]; exact TL.numL_ne m) (by omega)
    rw [this]
    show some ((NumText.digitsVal (tl (itxt (m : Int))) : Nat) : Int) = _
    rw [itxt_nat, TL.numL_val]
  · have hl := TL.numL_len (n := m + 1) (k := 60) (by decide) (by omega)
    have hlen : (itxt (-((m : Int) + 1))).length ≤ 61 := by
      rw [← tl_len, itxt_neg, List.length_cons]
      omega
    refine ⟨?_, hlen⟩
    have := intText_neg (x := itxt (-((m : Int) + 1))) (cs := TL.numL (m + 1)) (itxt_neg m) (TL.numL_digits _) (TL.numL_ne _) (by omega)
    rw [this, TL.numL_val]
    rfl
/-- words are no integers -/
theorem isI_wd {z : Str} (h : Wd z) (h0 : tl z ≠ []) : isI z = false := by
  obtain ⟨c, r, e⟩ : ∃ c r, tl z = c :: r := by
    cases e : tl z with
    | nil => exact absurd e h0
    | cons a b => exact ⟨a, b, rfl⟩
  have hc := h c (by show c ∈ tl z; rw [e]; exact List.mem_cons_self)
  have hr : rmv (tl z) = c :: r := by
    rw [e]
    show (if c = 45 then r else c :: r) = _
    rw [if_neg (by omega)]
  unfold isI
  have hz : z ≠ "0" := fun hz => by
    have e2 : tl z = [48] := by rw [hz]; decide +kernel
    rw [e] at e2
    cases e2
    omega
  have hcd : c ∉ digs := fun hd => by
    have := in_digs.mp hd
    omega
  rw [hr, rn_out hcd, decide_eq_false hz, decide_eq_false (show ¬ (0 = (c :: r).length) by rw [List.length_cons]; omega), Bool.and_false, Bool.false_or]
theorem isN_nam {z : Str} (h : Nam z) : isN z = true := by
  unfold isN
  have h0 : z ≠ "" := fun e => by
    have := h.len.1
    rw [e] at this
    exact absurd this (by decide +kernel)
  rw [decide_eq_true h0, decide_eq_true h.nr, rn_all (l := tl z) (fun c hc => in_lets.mpr (h.wd c hc)), decide_eq_true (rfl : (tl z).length = _)]
  rfl
theorem isN_res {z : Str} (h : z ∈ res) : isN z = false := by
  unfold isN
  rw [decide_eq_false (fun g : z ∉ res => g h), Bool.false_and, Bool.and_false]
/-! ### shapes of tokens -/
def Pn (t : Str) : Prop := t = "(" ∨ t = ")" ∨ t = ","
def NumT (t : Str) : Prop := ∃ c r, tl t = c :: r ∧ (c = 45 ∨ c ∈ digs) ∧ ∀ x ∈ r, x ∈ digs
def Tk (t : Str) : Prop := (tl t ≠ [] ∧ Wd t) ∨ NumT t ∨ Pn t
theorem pn_code {t : Str} (h : Pn t) : ∃ c, tl t = [c] ∧ (c = 40 ∨ c = 41 ∨ c = 44) := by
  have e : tl ("(" : Str) = [40] ∧ tl (")" : Str) = [41] ∧ tl ("," : Str) = [44] := by decide +kernel
  rcases h with rfl | rfl | rfl
  · exact ⟨40, e.1, .inl rfl⟩
  · exact ⟨41, e.2.1, .inr (.inl rfl)⟩
  · exact ⟨44, e.2.2, .inr (.inr rfl)⟩
theorem itxt_num (n : Int) : NumT (itxt n) := by
  rcases int_two n with ⟨m, rfl⟩ | ⟨m, rfl⟩
  · cases e : TL.numL m with
    | nil => exact absurd e (TL.numL_ne m)
    | cons c r =>
      have hd := numL_digs (m := m)
      rw [e] at hd
      exact ⟨c, r, by rw [itxt_nat, e], .inr (hd c List.mem_cons_self), fun x hx => hd x (List.mem_cons_of_mem _ hx)⟩
  · exact ⟨45, _, itxt_neg m, .inl rfl, numL_digs⟩
/-- a sign that goes on no token -/
def Cut (l : List Nat) : Prop := ∀ c r, l = c :: r → c ∉ lets ∧ c ∉ digs
theorem pc_tk {t : Str} {l : List Nat} (h : Tk t) (g : Pn t ∨ Cut l) : pc (tl t ++ l) = t.length ∧ ∃ c r, tl t = c :: r ∧ c ≠ 32 := by
  by_cases hp : Pn t
  · obtain ⟨c, e, hc⟩ := pn_code hp
    rw [← tl_len, e]
    have n1 : c ∉ lets := fun h => by have := in_lets.mp h; omega
    have n2 : ¬ (c ∈ digs ∨ c = 45) := by
      rintro (h | h)
      · have := in_digs.mp h; omega
      · omega
    refine ⟨?_, c, [], rfl, by omega⟩
    show (if c ∈ lets then _ else if c ∈ digs ∨ c = 45 then _ else 1) = 1
    rw [if_neg n1, if_neg n2]
  · have g := g.resolve_left hp
    rcases h with ⟨h0, hw⟩ | ⟨c, r, e, hc, hr⟩ | h
    · have hall : ∀ c ∈ tl t, c ∈ lets := fun c hc => in_lets.mpr (hw c hc)
      cases e : tl t with
      | nil => exact absurd e h0
      | cons c r =>
        rw [← tl_len]
        rw [e] at hall ⊢
        have hc := hall c List.mem_cons_self
        refine ⟨?_, c, r, rfl, by have := in_lets.mp hc; omega⟩
        show (if c ∈ lets then rn lets (c :: (r ++ l)) else _) = _
        rw [if_pos hc]
        have := rn_app (c :: r) l hall
        rw [rn_stop fun x y h => (g x y h).1] at this
        exact this
    · rw [← tl_len, e]
      have n1 : c ∉ lets := fun h => by
        have := in_lets.mp h
        rcases hc with hc | hc
        · omega
        · have := in_digs.mp hc; omega
      refine ⟨?_, c, r, rfl, ?_⟩
      · show (if c ∈ lets then _ else if c ∈ digs ∨ c = 45 then 1 + rn digs (r ++ l) else 1) = _
        rw [if_neg n1, if_pos (hc.symm), rn_app r l hr, rn_stop fun x y h => (g x y h).2, List.length_cons]
        omega
      · rcases hc with hc | hc
        · omega
        · have := in_digs.mp hc; omega
    · exact absurd h hp
/-! ### tokens with blanks before each and behind the last -/
inductive Lay : List Str → List Nat → Prop where
  | nil (k : Nat) : Lay [] (List.replicate k 32)
  | cons (k : Nat) {t : Str} {r : List Str} {c : List Nat} : Lay r c → Lay (t :: r) (List.replicate k 32 ++ (tl t ++ c))
def Alt : List Str → Prop
  | [] => True
  | [_] => True
  | a :: b :: r => (Pn a ∨ Pn b) ∧ Alt (b :: r)
theorem cut_blank {k : Nat} {l : List Nat} (h : Cut l) : Cut (List.replicate k 32 ++ l) := fun c r e => by
  cases k with
  | zero => exact h c r e
  | succ k =>
    rw [List.replicate_succ, List.cons_append] at e
    cases e
    exact ⟨fun h => by have := in_lets.mp h; omega, fun h => by have := in_digs.mp h; omega⟩
theorem lay_cut {r : List Str} {c : List Nat} (h : Lay r c) (g : r = [] ∨ ∃ b r', r = b :: r' ∧ Pn b) : Cut c := by
  cases h with
  | nil k =>
    have := cut_blank (k := k) (l := []) fun c r e => by cases e
    rw [List.append_nil] at this
    exact this
  | cons k hL =>
    rcases g with g | ⟨b, r', e, hp⟩
    · cases g
    · cases e
      refine cut_blank fun c r e => ?_
      obtain ⟨x, ex, hx⟩ := pn_code hp
      rw [ex] at e
      cases e
      exact ⟨fun h => by have := in_lets.mp h; omega, fun h => by have := in_digs.mp h; omega⟩
theorem rep_blank {k : Nat} : ∀ c ∈ List.replicate k 32, c ∈ sp := fun c h => in_blank.mpr (List.mem_replicate.mp h).2
theorem lay_toks {ts : List Str} {c : List Nat} (h : Lay ts c) : (∀ t ∈ ts, Tk t) → Alt ts → ∀ n, ∃ tc, Toks (c.drop (rn sp c)) (n + rn sp c) tc ∧ tc.map Prod.fst = ts := by
  induction h with
  | nil k =>
    intro _ _ n
    refine ⟨[], ?_, rfl⟩
    rw [rn_all rep_blank, List.drop_eq_nil_of_le (Nat.le_refl _)]
    exact .nil _
  | cons k hL ih =>
    rename_i t r c
    intro hk ha n
    have hT := hk t List.mem_cons_self
    have hcut : Pn t ∨ Cut c := by
      cases r with
      | nil => exact .inr (lay_cut hL (.inl rfl))
      | cons b r' => exact ha.1.imp id fun hb => lay_cut hL (.inr ⟨b, r', rfl, hb⟩)
    obtain ⟨hp, x, y, ex, hx⟩ := pc_tk (l := c) hT hcut
    have h0 : rn sp (tl t ++ c) = 0 := by
      rw [ex]
      exact rn_out fun h => hx (in_blank.mp h)
    rw [rn_app _ _ rep_blank, h0, Nat.add_zero, List.drop_left]
    have ha' : Alt r := by
      cases r with
      | nil => trivial
      | cons b r' => exact ha.2
    obtain ⟨tc, h1, h2⟩ := ih (fun u hu => hk u (List.mem_cons_of_mem _ hu)) ha' (n + k + t.length)
    have hd : (tl t ++ c).drop (pc (tl t ++ c)) = c := by
      rw [hp, ← tl_len, List.drop_left]
    have ht : (⟨((tl t ++ c).take (pc (tl t ++ c))).toArray⟩ : Str) = t := by
      rw [hp, ← tl_len, List.take_left]
      exact mk_tl t
    rw [List.length_replicate]
    refine ⟨(t, n + k + 1) :: tc, ?_, by rw [List.map_cons, h2]⟩
    have := Toks.cons (l := tl t ++ c) (n := n + k) (ts := tc) (by rw [ex]; exact List.cons_ne_nil _ _) (by rw [hd, hp]; exact h1)
    rw [ht] at this
    exact this
/-- the written form: a blank behind each comma -/
theorem lay_ct : ∀ (ts : List Str) (k : Nat), Lay ts (List.replicate k 32 ++ ct ts)
  | [], k => by
    rw [ct_nil, List.append_nil]
    exact .nil k
  | t :: r, k => by
    rw [ct_cons]
    by_cases h : t = ","
    · subst h
      have e : (sub ",").cps.toList = tl "," ++ List.replicate 1 32 := by decide +kernel
      rw [e, List.append_assoc]
      exact .cons k (lay_ct r 1)
    · rw [sub_ne h]
      exact .cons k (lay_ct r 0)
/-! ### the tokens of an item -/
inductive Pt where
  | ex (i : It)
  | dv (n : Int)
def Pt.tk : Pt → List Str
  | .ex i => i.tk
  | .dv n => [itxt n]
def It.pts : It → List Pt
  | .un _ a => [.ex a]
  | .dm _ a n => [.ex a, .dv n]
  | .bin _ a b => [.ex a, .ex b]
  | .tri a b c => [.ex a, .ex b, .ex c]
  | .grp _ l => l.map .ex
  | _ => []
def tlP : List Pt → List Str
  | [] => [")"]
  | p :: r => "," :: (p.tk ++ tlP r)
def opP : List Pt → List Str
  | [] => ["(", ")"]
  | p :: r => "(" :: (p.tk ++ tlP r)
theorem tlP_map : ∀ l : List It, tlP (l.map .ex) = (l.map It.tk).flatMap (fun t => ("," : Str) :: t) ++ ([")"] : List Str)
  | [] => rfl
  | a :: r => by
    show ("," : Str) :: (a.tk ++ tlP (r.map .ex)) = _
    rw [tlP_map r, List.map_cons, List.flatMap_cons, List.append_assoc, List.cons_append]
theorem tk_pts {i : It} (h : i.cls ≠ 0) : i.tk = i.word :: opP i.pts := by
  rw [tk_eq h]
  cases i with
  | num _ => exact absurd rfl h
  | name _ => exact absurd rfl h
  | lit _ => exact absurd rfl h
  | un w a => simp [It.word, It.kids, It.tailT, It.pts, opP, tlP, Pt.tk, sepF]
  | dm w a n => simp [It.word, It.kids, It.tailT, It.pts, opP, tlP, Pt.tk, sepF]
  | bin w a b => simp [It.word, It.kids, It.tailT, It.pts, opP, tlP, Pt.tk, sepF]
  | tri a b c => simp [It.word, It.kids, It.tailT, It.pts, opP, tlP, Pt.tk, sepF]
  | grp w l =>
    cases l with
    | nil => rfl
    | cons a r =>
      show ([w, "("] : List Str) ++ (a.tk ++ (r.map It.tk).flatMap (fun t => ("," : Str) :: t)) ++ [] ++ ([")"] : List Str) = w :: "(" :: (a.tk ++ tlP (r.map .ex))
      rw [tlP_map]
      simp
theorem pts_mem {i : It} {p : Pt} (h : p ∈ i.pts) : (∃ j ∈ i.kids, p = .ex j) ∨ ∃ n, p = .dv n := by
  cases i with
  | num _ => cases h
  | name _ => cases h
  | lit _ => cases h
  | un w a =>
    rw [List.mem_singleton.mp h]
    exact .inl ⟨a, List.mem_cons_self, rfl⟩
  | dm w a n =>
    simp only [It.pts, List.mem_cons, List.not_mem_nil, or_false] at h
    rcases h with rfl | rfl
    · exact .inl ⟨a, List.mem_cons_self, rfl⟩
    · exact .inr ⟨n, rfl⟩
  | bin w a b =>
    simp only [It.pts, List.mem_cons, List.not_mem_nil, or_false] at h
    rcases h with rfl | rfl
    · exact .inl ⟨a, by simp [It.kids], rfl⟩
    · exact .inl ⟨b, by simp [It.kids], rfl⟩
  | tri a b c =>
    simp only [It.pts, List.mem_cons, List.not_mem_nil, or_false] at h
    rcases h with rfl | rfl | rfl
    · exact .inl ⟨a, by simp [It.kids], rfl⟩
    · exact .inl ⟨b, by simp [It.kids], rfl⟩
    · exact .inl ⟨c, by simp [It.kids], rfl⟩
  | grp w l =>
    obtain ⟨j, hj, rfl⟩ := List.mem_map.mp h
    exact .inl ⟨j, hj, rfl⟩
theorem alt_cons {p : Str} {l : List Str} (hp : Pn p) (h : Alt l) : Alt (p :: l) := by
  cases l with
  | nil => trivial
  | cons b r => exact ⟨.inl hp, h⟩
theorem alt_two {w p : Str} {l : List Str} (hp : Pn p) (h : Alt (p :: l)) : Alt (w :: p :: l) := ⟨.inr hp, h⟩
theorem alt_app {p : Str} {l2 : List Str} (hp : Pn p) (h2 : Alt (p :: l2)) : ∀ l1, Alt l1 → Alt (l1 ++ p :: l2)
  | [], _ => h2
  | [a], _ => ⟨.inr hp, h2⟩
  | a :: b :: r, h => ⟨h.1, alt_app hp h2 (b :: r) h.2⟩
theorem pn_o : Pn "(" := .inl rfl
theorem pn_c : Pn ")" := .inr (.inl rfl)
theorem pn_k : Pn "," := .inr (.inr rfl)
def Good (ts : List Str) : Prop := (∀ t ∈ ts, Tk t) ∧ Alt ts
theorem good_tl : ∀ l : List Pt, (∀ p ∈ l, Good p.tk) → Good (tlP l) ∧ ∃ p r, tlP l = p :: r ∧ Pn p
  | [], _ => ⟨⟨fun t h => by rw [List.mem_singleton.mp h]; exact .inr (.inr pn_c), trivial⟩, _, _, rfl, pn_c⟩
  | p :: r, h => by
    obtain ⟨⟨g1, g2⟩, q, s, e, hq⟩ := good_tl r fun x hx => h x (List.mem_cons_of_mem _ hx)
    obtain ⟨k1, k2⟩ := h p List.mem_cons_self
    refine ⟨⟨fun t ht => ?_, ?_⟩, _, _, rfl, pn_k⟩
    · rcases List.mem_cons.mp ht with rfl | ht
      · exact .inr (.inr pn_k)
      · rcases List.mem_append.mp ht with ht | ht
        · exact k1 t ht
        · exact g1 t ht
    · show Alt (("," : Str) :: (p.tk ++ tlP r))
      refine alt_cons pn_k ?_
      rw [e] at g2 ⊢
      exact alt_app hq g2 _ k2
theorem good_op {w : Str} (hw : Tk w) : ∀ l : List Pt, (∀ p ∈ l, Good p.tk) → Good (w :: opP l)
  | [], _ => ⟨fun t ht => by
      rcases List.mem_cons.mp ht with rfl | ht
      · exact hw
      · rcases List.mem_cons.mp ht with rfl | ht
        · exact .inr (.inr pn_o)
        · rw [List.mem_singleton.mp ht]; exact .inr (.inr pn_c), alt_two pn_o (alt_cons pn_o trivial)⟩
  | p :: r, h => by
    obtain ⟨⟨g1, g2⟩, q, s, e, hq⟩ := good_tl r fun x hx => h x (List.mem_cons_of_mem _ hx)
    obtain ⟨k1, k2⟩ := h p List.mem_cons_self
    refine ⟨fun t ht => ?_, ?_⟩
    · rcases List.mem_cons.mp ht with rfl | ht
      · exact hw
      · rcases List.mem_cons.mp ht with rfl | ht
        · exact .inr (.inr pn_o)
        · rcases List.mem_append.mp ht with ht | ht
          · exact k1 t ht
          · exact g1 t ht
    · show Alt (w :: ("(" : Str) :: (p.tk ++ tlP r))
      refine alt_two pn_o (alt_cons pn_o ?_)
      rw [e] at g2 ⊢
      exact alt_app hq g2 _ k2
theorem good_int (n : Int) : Good [itxt n] := ⟨fun t h => by rw [List.mem_singleton.mp h]; exact .inr (.inl (itxt_num n)), trivial⟩
theorem nam_tk {z : Str} (h : Nam z) : Tk z := .inl ⟨fun e => by
  have h1 := h.len.1
  rw [← tl_len, e] at h1
  exact absurd h1 (by decide), h.wd⟩
theorem word_tk {xs : List Str} {B : Nat} {b : Bool} {i : It} (h : Okx xs B b i) : tl i.word ≠ [] ∧ Wd i.word := by
  refine ⟨?_, (word_wd h).1⟩
  have g : ∀ z ∈ (["number", "name", "true", "false", "abs", "not", "div", "mod", "add", "sub", "mul", "min", "max", "less", "equal", "if", "all", "any"] : List Str), tl z ≠ [] := by decide +kernel
  refine g _ ?_
  simp only [List.mem_cons, List.not_mem_nil, or_false]
  cases h with
  | num _ => simp [It.word]
  | name _ => simp [It.word]
  | lit => rename_i b; cases b <;> simp [It.word, bstr]
  | abs _ => simp [It.word]
  | not _ => simp [It.word]
  | dm hw _ _ _ =>
    simp only [List.mem_cons, List.not_mem_nil, or_false] at hw
    rcases hw with rfl | rfl <;> simp [It.word]
  | bin hw _ _ =>
    simp only [List.mem_cons, List.not_mem_nil, or_false] at hw
    rcases hw with rfl | rfl | rfl | rfl | rfl <;> simp [It.word]
  | cmp hw _ _ =>
    simp only [List.mem_cons, List.not_mem_nil, or_false] at hw
    rcases hw with rfl | rfl <;> simp [It.word]
  | tri _ _ _ => simp [It.word]
  | grp hw _ _ =>
    simp only [List.mem_cons, List.not_mem_nil, or_false] at hw
    rcases hw with rfl | rfl <;> simp [It.word]
theorem tk_good {xs : List Str} {B : Nat} (hx : ∀ x ∈ xs, Nam x) {b : Bool} {i : It} (h : Okx xs B b i) : Good i.tk := by
  refine kids_rec (p := fun i => Good i.tk) (fun b i h h0 => ?_) (fun b i h h0 ih => ?_) h
  · cases h with
    | num _ => rw [It.tk]; exact good_int _
    | name hm => rw [It.tk]; exact ⟨fun t ht => by rw [List.mem_singleton.mp ht]; exact nam_tk (hx _ hm), trivial⟩
    | lit =>
      rename_i b
      rw [It.tk]
      refine ⟨fun t ht => ?_, trivial⟩
      rw [List.mem_singleton.mp ht]
      exact .inl (word_tk (xs := xs) (B := B) (Okx.lit (b := b)))
    | abs _ => cases h0
    | not _ => cases h0
    | dm _ _ _ _ => cases h0
    | bin _ _ _ => cases h0
    | cmp _ _ _ => cases h0
    | tri _ _ _ => cases h0
    | grp _ _ _ => cases h0
  · rw [tk_pts h0]
    refine good_op (.inl (word_tk h)) _ fun p hp => ?_
    rcases pts_mem hp with ⟨j, hj, rfl⟩ | ⟨n, rfl⟩
    · exact ih j hj
    · exact good_int n
end NL

namespace NL
open PySem PySem.Spec PyProof.Rows L2
/-! ### parts, their kinds, what is read of them -/
inductive PtOk (xs : List Str) (B : Nat) : Str → Pt → Prop where
  | ex {i} : Okx xs B false i → PtOk xs B "expression" (.ex i)
  | te {i} : Okx xs B true i → PtOk xs B "condition" (.ex i)
  | dv {n : Int} : 1 ≤ n → n.natAbs ≤ B + 1 → PtOk xs B "divisor" (.dv n)
def PtIn (H : Hp) : Pt → V → Prop
  | .ex i, v => ItemIn H i v
  | .dv n, v => v = .int n
def Pt.dep : Pt → Nat
  | .ex i => i.dep
  | .dv _ => 0
inductive Mt (xs : List Str) (B : Nat) : List Str → List Pt → Prop where
  | nil : Mt xs B [] []
  | cons {k p ks ps} : PtOk xs B k p → Mt xs B ks ps → Mt xs B (k :: ks) (p :: ps)
theorem Mt.get {xs : List Str} {B : Nat} {ks : List Str} {ps : List Pt} (h : Mt xs B ks ps) : ∀ {j : Nat} {kd : Str}, ks[j]? = some kd → ∃ p, ps[j]? = some p ∧ PtOk xs B kd p := by
  induction h with
  | nil => intro j kd e; simp at e
  | cons h g ih =>
    intro j kd e
    cases j with
    | zero =>
      cases Option.some.inj e
      exact ⟨_, rfl, h⟩
    | succ j => exact ih (by simpa using e)
theorem Mt.len {xs : List Str} {B : Nat} {ks : List Str} {ps : List Pt} (h : Mt xs B ks ps) : ks.length = ps.length := by
  induction h with
  | nil => rfl
  | cons h g ih => rw [List.length_cons, List.length_cons, ih]
def PtsIn (H : Hp) (ps : List Pt) (vs : List V) : Prop := vs.length = ps.length ∧ ∀ (k : Nat) p v, ps[k]? = some p → vs[k]? = some v → PtIn H p v
theorem PtIn.mono {H H' : Hp} (t : Tp H H') : ∀ {p : Pt} {v : V}, PtIn H p v → PtIn H' p v
  | .ex _, _, h => ItemIn.mono t h
  | .dv _, _, h => h
theorem PtsIn.mono {H H' : Hp} (t : Tp H H') {ps : List Pt} {vs : List V} (h : PtsIn H ps vs) : PtsIn H' ps vs := ⟨h.1, fun k p v a b => (h.2 k p v a b).mono t⟩
theorem PtsIn.snoc {H : Hp} {ps : List Pt} {vs : List V} {p : Pt} {v : V} (h : PtsIn H ps vs) (hp : PtIn H p v) : PtsIn H (ps ++ [p]) (vs ++ [v]) := by
  obtain ⟨hl, hin⟩ := h
  refine ⟨by rw [List.length_append, List.length_append, hl] <;> rfl, fun k j x h1 h2 => ?_⟩
  by_cases hk : k < ps.length
  · rw [List.getElem?_append_left (by omega)] at h1 h2
    exact hin k j x h1 h2
  · have hk3 : k = ps.length := by
      have := (List.getElem?_eq_some_iff.mp h1).1
      rw [List.length_append, List.length_singleton] at this
      omega
    subst hk3
    rw [List.getElem?_append_right (by omega), Nat.sub_self] at h1
    rw [List.getElem?_append_right (by omega), hl, Nat.sub_self] at h2
    obtain rfl : p = j := Option.some.inj h1
    obtain rfl : v = x := Option.some.inj h2
    exact hp
theorem pts0 {H : Hp} : PtsIn H [] [] := ⟨rfl, fun k p v h _ => by simp at h⟩
theorem len1 {α : Type} {l : List α} (h : l.length = 1) : ∃ a, l = [a] := by
  match l, h with
  | [a], _ => exact ⟨a, rfl⟩
theorem len2 {α : Type} {l : List α} (h : l.length = 2) : ∃ a b, l = [a, b] := by
  match l, h with
  | [a, b], _ => exact ⟨a, b, rfl⟩
theorem len3 {α : Type} {l : List α} (h : l.length = 3) : ∃ a b c, l = [a, b, c] := by
  match l, h with
  | [a, b, c], _ => exact ⟨a, b, c, rfl⟩
theorem item_pts {H : Hp} {i : It} {vs : List V} {a : Addr} (h0 : i.cls ≠ 0) (h1 : i.cls ≠ 1) (e : H a = some (.tup (.str i.word :: vs))) (h : PtsIn H i.pts vs) : ItemIn H i (.ref a) := by
  cases i with
  | num _ => exact absurd rfl h0
  | name _ => exact absurd rfl h0
  | lit _ => exact absurd rfl h0
  | grp _ _ => exact absurd rfl h1
  | un w x =>
    obtain ⟨v, rfl⟩ := len1 h.1
    exact .un e (h.2 0 _ _ rfl rfl)
  | dm w x n =>
    obtain ⟨v, u, rfl⟩ := len2 h.1
    have hu : u = .int n := h.2 1 _ _ rfl rfl
    subst hu
    exact .dm e (h.2 0 _ _ rfl rfl)
  | bin w x y =>
    obtain ⟨v, u, rfl⟩ := len2 h.1
    exact .bin e (h.2 0 _ _ rfl rfl) (h.2 1 _ _ rfl rfl)
  | tri x y z =>
    obtain ⟨v, u, t, rfl⟩ := len3 h.1
    exact .tri e (h.2 0 _ _ rfl rfl) (h.2 1 _ _ rfl rfl) (h.2 2 _ _ rfl rfl)
theorem row_ex {xs : List Str} {B : Nat} {i : It} (h : Okx xs B false i) (h0 : i.cls ≠ 0) : ∃ ks, (i.word, ks) ∈ rows_EXPRESSION_PARTS ∧ Mt xs B ks i.pts ∧ i.cls ≠ 1 ∧ i.pts ≠ [] := by
  cases h with
  | num _ => exact absurd rfl h0
  | name _ => exact absurd rfl h0
  | abs h => exact ⟨["expression"], by simp [rows_EXPRESSION_PARTS, It.word], .cons (.ex h) .nil, by simp [It.cls], by simp [It.pts]⟩
  | dm hw h h1 h2 =>
    refine ⟨["expression", "divisor"], ?_, .cons (.ex h) (.cons (.dv h1 h2) .nil), by simp [It.cls], by simp [It.pts]⟩
    simp only [List.mem_cons, List.not_mem_nil, or_false] at hw
    rcases hw with rfl | rfl <;> simp [rows_EXPRESSION_PARTS, It.word]
  | bin hw h g =>
    refine ⟨["expression", "expression"], ?_, .cons (.ex h) (.cons (.ex g) .nil), by simp [It.cls], by simp [It.pts]⟩
    simp only [List.mem_cons, List.not_mem_nil, or_false] at hw
    rcases hw with rfl | rfl | rfl | rfl | rfl <;> simp [rows_EXPRESSION_PARTS, It.word]
  | tri h g k => exact ⟨["condition", "expression", "expression"], by simp [rows_EXPRESSION_PARTS, It.word], .cons (.te h) (.cons (.ex g) (.cons (.ex k) .nil)), by simp [It.cls], by simp [It.pts]⟩
theorem row_te {xs : List Str} {B : Nat} {i : It} (h : Okx xs B true i) (h0 : i.cls ≠ 0) (h1 : i.cls ≠ 1) : ∃ ks, (i.word, ks) ∈ rows_CONDITION_PARTS ∧ Mt xs B ks i.pts ∧ i.pts ≠ [] := by
  cases h with
  | lit => exact absurd rfl h0
  | not h => exact ⟨["condition"], by simp [rows_CONDITION_PARTS, It.word], .cons (.te h) .nil, by simp [It.pts]⟩
  | cmp hw h g =>
    refine ⟨["expression", "expression"], ?_, .cons (.ex h) (.cons (.ex g) .nil), by simp [It.pts]⟩
    simp only [List.mem_cons, List.not_mem_nil, or_false] at hw
    rcases hw with rfl | rfl <;> simp [rows_CONDITION_PARTS, It.word]
  | grp _ _ _ => exact absurd rfl h1
theorem pts_dep {i : It} {p : Pt} (h : p ∈ i.pts) : p.dep + 1 ≤ i.dep := by
  have hd := @kids_dep i
  have hp := dep_pos i
  rcases pts_mem h with ⟨j, hj, rfl⟩ | ⟨n, rfl⟩
  · have h1 := depL_in hj
    show j.dep + 1 ≤ _
    omega
  · exact hp
theorem tlen (xs : List Str) (h : ∀ x ∈ xs, Nam x) {x : Str} (hx : x ∈ xs) : x.length ≤ 10000000 := by
  have := (h x hx).len
  omega
abbrev wds (ts : List (Str × Nat)) : List Str := ts.map Prod.fst
end NL

namespace NL
open PySem PySem.Spec PyProof.Rows L2
/-! ### what an integer's text is worth -/
theorem dig_val : ∀ (n : Nat) {l : List Nat}, l.length = n → l ≠ [] → l.head? ≠ some 48 → (∀ c ∈ l, c ∈ digs) → TL.numL (NumText.digitsVal l) = l ∧ 0 < NumText.digitsVal l
  | 0, l, hn, h0, _, _ => absurd (List.length_eq_zero_iff.mp hn) h0
  | n + 1, l, hn, h0, h1, hd => by
    have e := (List.dropLast_concat_getLast h0).symm
    have hc := in_digs.mp (hd _ (List.getLast_mem h0))
    generalize l.getLast h0 = c at e hc
    have hlen : l.dropLast.length = n := by rw [List.length_dropLast]; omega
    have hsub : ∀ c ∈ l.dropLast, c ∈ digs := fun c hc => hd c (List.dropLast_subset _ hc)
    generalize l.dropLast = r at e hlen hsub
    subst e
    rw [NumText.digitsVal_snoc]
    by_cases hr : r = []
    · subst hr
      have hc2 : c ≠ 48 := fun z => h1 (by rw [z]; rfl)
      have e0 : NumText.digitsVal [] = 0 := rfl
      rw [e0, Nat.zero_mul, Nat.zero_add, TL.numL_lt (by omega), List.nil_append]
      exact ⟨by rw [show 48 + (c - 48) = c by omega], by omega⟩
    · have hh : r.head? ≠ some 48 := fun z => h1 (by
        cases r with
        | nil => exact absurd rfl hr
        | cons a b => exact z)
      obtain ⟨g1, g2⟩ := dig_val n hlen hr hh hsub
      rw [TL.numL_step (by omega), show (NumText.digitsVal r * 10 + (c - 48)) / 10 = NumText.digitsVal r by omega, show (NumText.digitsVal r * 10 + (c - 48)) % 10 = c - 48 by omega, g1, show 48 + (c - 48) = c by omega]
      exact ⟨rfl, by omega⟩
theorem numL_big : ∀ (k : Nat) {m : Nat}, (TL.numL m).length ≤ k → m < 10 ^ k
  | 0, m, h => by
    have := List.length_pos_iff.mpr (TL.numL_ne m)
    omega
  | k + 1, m, h => by
    by_cases hm : 10 ≤ m
    · rw [TL.numL_step hm, List.length_append, List.length_singleton] at h
      have := numL_big k (m := m / 10) (by omega)
      rw [Nat.pow_succ]
      omega
    · have : 1 ≤ 10 ^ k := Nat.one_le_pow _ _ (by decide)
      rw [Nat.pow_succ]
      omega
theorem isI_ex {z : Str} (h : isI z = true) : ∃ n : Int, z = itxt n ∧ n.natAbs < 10 ^ 60 := by
  unfold isI at h
  rcases Bool.or_eq_true_iff.mp h with h0 | h0
  · exact ⟨0, by rw [of_decide_eq_true h0]; decide +kernel, by decide⟩
  obtain ⟨h1, h2⟩ := Bool.and_eq_true_iff.mp h0
  have g := of_decide_eq_true h1
  have e := of_decide_eq_true h2
  have g0 : rmv (tl z) ≠ [] := fun x => g (.inl x)
  have g1 : (rmv (tl z)).head? ≠ some 48 := fun x => g (.inr (.inl x))
  have g2 : (rmv (tl z)).length ≤ 60 := Nat.le_of_not_lt fun x => g (.inr (.inr x))
  have hd : ∀ c ∈ rmv (tl z), c ∈ digs := by
    generalize rmv (tl z) = l at e
    have key : ∀ l : List Nat, rn digs l = l.length → ∀ c ∈ l, c ∈ digs := by
      intro l
      induction l with
      | nil => intro _ c hc; cases hc
      | cons a r ih =>
        intro hl c hc
        by_cases ha : a ∈ digs
        · rw [rn_in ha, List.length_cons] at hl
          rcases List.mem_cons.mp hc with x | x
          · rw [x]; exact ha
          · exact ih (by omega) c x
        · rw [rn_out ha, List.length_cons] at hl
          omega
    exact key l e
  obtain ⟨m, em, hm, hp⟩ : ∃ m, rmv (tl z) = TL.numL m ∧ m < 10 ^ 60 ∧ 0 < m := by
    obtain ⟨q1, q2⟩ := dig_val _ rfl g0 g1 hd
    exact ⟨_, q1.symm, numL_big 60 (by rw [q1]; exact g2), q2⟩
  cases ez : tl z with
  | nil => rw [ez] at g0; exact absurd rfl g0
  | cons c r =>
    by_cases hc : c = 45
    · subst hc
      have er : rmv (tl z) = r := by rw [ez]; rfl
      rw [er] at em
      refine ⟨-((m - 1 : Nat) : Int) - 1, str_ext ?_, by omega⟩
      show tl z = tl (itxt _)
      rw [show (-((m - 1 : Nat) : Int) - 1) = -(((m - 1 : Nat) : Int) + 1) by omega, itxt_neg, ez, em, show m - 1 + 1 = m by omega]
    · have er : rmv (tl z) = c :: r := by
        rw [ez]
        show (if c = 45 then r else c :: r) = _
        rw [if_neg hc]
      rw [er] at em
      refine ⟨(m : Int), str_ext ?_, by omega⟩
      show tl z = tl (itxt _)
      rw [itxt_nat, ez, em]
open Classical in
noncomputable def ival (z : Str) : Int := if h : ∃ n : Int, z = itxt n ∧ n.natAbs < 10 ^ 60 then h.choose else 0
theorem ival_ok {z : Str} (h : isI z = true) : z = itxt (ival z) ∧ (ival z).natAbs < 10 ^ 60 := by
  have e := isI_ex h
  unfold ival
  rw [dif_pos e]
  exact e.choose_spec
theorem itxt_inj {a b : Int} (ha : a.natAbs < 10 ^ 60) (hb : b.natAbs < 10 ^ 60) (h : itxt a = itxt b) : a = b := by
  have h1 := (int_read ha).1
  rw [h, (int_read hb).1] at h1
  exact (Option.some.inj h1).symm
theorem ival_itxt {n : Int} (h : n.natAbs < 10 ^ 60) : ival (itxt n) = n := by
  obtain ⟨h1, h2⟩ := ival_ok (isI_itxt h)
  exact (itxt_inj h h2 h1).symm
theorem ival_read {z : Str} (h : isI z = true) : intText? z = some (ival z) ∧ z.length ≤ 61 := by
  obtain ⟨h1, h2⟩ := ival_ok h
  have := int_read h2
  rw [← h1] at this
  exact this
/-! ### the readers as functions -/
abbrev Tok := Str × Nat
abbrev Rs (α : Type) := Except Nat (α × List Tok)
def passT (w : Str) : List Tok → Except Nat (List Tok)
  | t :: r => if t.1 = w then .ok r else .error t.2
  | [] => .error 0
noncomputable def rdDv : List Tok → Rs Pt
  | t :: r => if isI t.1 = true ∧ 1 ≤ ival t.1 then .ok (.dv (ival t.1), r) else .error t.2
  | [] => .error 0
abbrev RP := Str → List Tok → Rs Pt
def rdPs (rp : RP) : List Str → Str → List Tok → Rs (List Pt)
  | [], _, l => match passT ")" l with
    | .error c => .error c
    | .ok r => .ok ([], r)
  | k :: ks, b, l => match passT b l with
    | .error c => .error c
    | .ok l1 => match rp k l1 with
      | .error c => .error c
      | .ok (p, l2) => match rdPs rp ks "," l2 with
        | .error c => .error c
        | .ok (ps, l3) => .ok (p :: ps, l3)
/-- behind a condition of "all" or "any" -/
def rdCs (rp : RP) : Nat → List Tok → Rs (List Pt)
  | n + 1, t :: r => if t.1 = "," then (match rp "condition" r with
      | .error c => .error c
      | .ok (p, l2) => match rdCs rp n l2 with
        | .error c => .error c
        | .ok (ps, l3) => .ok (p :: ps, l3)) else if t.1 = ")" then .ok ([], r) else .error t.2
  | _, _ => .error 0
def rdG (rp : RP) (l : List Tok) : Rs (List Pt) := match passT "(" l with
  | .error c => .error c
  | .ok l1 => match l1 with
    | [] => .error 0
    | t :: r => if t.1 = ")" then .ok ([], r) else match rp "condition" (t :: r) with
      | .error c => .error c
      | .ok (p, l2) => match rdCs rp l2.length l2 with
        | .error c => .error c
        | .ok (ps, l3) => .ok (p :: ps, l3)
def Pt.it : Pt → It
  | .ex i => i
  | .dv _ => .lit false
def mkI (w : Str) : List Pt → It
  | [.ex a] => .un w a
  | [.ex a, .dv n] => .dm w a n
  | [.ex a, .ex b] => .bin w a b
  | [.ex a, .ex b, .ex c] => .tri a b c
  | _ => .lit false
noncomputable def rdE (rp : RP) : List Tok → Rs Pt
  | t :: r => if isI t.1 = true then .ok (.ex (.num (ival t.1)), r) else if isN t.1 = true then .ok (.ex (.name t.1), r) else match rows_EXPRESSION_PARTS.lookup t.1 with
    | none => .error t.2
    | some ks => match rdPs rp ks "(" r with
      | .error c => .error c
      | .ok (ps, r2) => .ok (.ex (mkI t.1 ps), r2)
  | [] => .error 0
def rdC (rp : RP) : List Tok → Rs Pt
  | t :: r => if t.1 ∈ (["true", "false"] : List Str) then .ok (.ex (.lit (decide (t.1 = "true"))), r) else if t.1 ∈ (["all", "any"] : List Str) then (match rdG rp r with
      | .error c => .error c
      | .ok (ps, r2) => .ok (.ex (.grp t.1 (ps.map Pt.it)), r2)) else match rows_CONDITION_PARTS.lookup t.1 with
    | none => .error t.2
    | some ks => match rdPs rp ks "(" r with
      | .error c => .error c
      | .ok (ps, r2) => .ok (.ex (mkI t.1 ps), r2)
  | [] => .error 0
def colE (l : List Tok) : Nat := match l with
  | t :: _ => t.2
  | [] => 0
noncomputable def rdPt : Nat → RP
  | 0, kd, l => if kd = "divisor" then rdDv l else .error (colE l)
  | m + 1, kd, l => if kd = "divisor" then rdDv l else if kd = "expression" then rdE (rdPt m) l else rdC (rdPt m) l
noncomputable def rdW (kd : Str) (l : List Tok) : Except Nat Pt := match rdPt 12 kd l with
  | .error c => .error c
  | .ok (p, r) => match passT "" r with
    | .error c => .error c
    | .ok _ => .ok p
/-! ### what is read is passed -/
/-- the kind of a part -/
def KdP (kd : Str) : Pt → Prop
  | .ex _ => kd ≠ "divisor"
  | .dv _ => kd = "divisor"
inductive KdPs : List Str → List Pt → Prop where
  | nil : KdPs [] []
  | cons {k p ks ps} : KdP k p → KdPs ks ps → KdPs (k :: ks) (p :: ps)
/-- the end stands last -/
def Fin (l : List Tok) : Prop := ∃ pre c, l = pre ++ [(("" : Str), c)]
theorem fin_ne {l : List Tok} (h : Fin l) : l ≠ [] := by
  obtain ⟨pre, c, rfl⟩ := h
  simp
theorem fin_tail {t : Tok} {r : List Tok} (h : Fin (t :: r)) (n : t.1 ≠ "") : Fin r := by
  obtain ⟨pre, c, e⟩ := h
  cases pre with
  | nil => cases e; exact absurd rfl n
  | cons a b => cases e; exact ⟨b, c, rfl⟩
theorem isI_nil : isI "" = false := by decide +kernel
theorem isN_nil : isN "" = false := by decide +kernel
/-- a step of the reader: tokens are passed, none of them the end, and at least one -/
def Pas (l r : List Tok) : Prop := ∃ l0, l = l0 ++ r ∧ l0 ≠ [] ∧ ∀ t ∈ l0, t.1 ≠ ""
theorem Pas.one {t : Tok} {r : List Tok} (h : t.1 ≠ "") : Pas (t :: r) r := ⟨[t], rfl, List.cons_ne_nil _ _, fun x hx => by rw [List.mem_singleton.mp hx]; exact h⟩
theorem Pas.trans {a b c : List Tok} (h : Pas a b) (g : Pas b c) : Pas a c := by
  obtain ⟨x, rfl, hx, hx2⟩ := h
  obtain ⟨y, rfl, hy, hy2⟩ := g
  refine ⟨x ++ y, by rw [List.append_assoc], fun e => hx (List.append_eq_nil_iff.mp e).1, fun t ht => ?_⟩
  rcases List.mem_append.mp ht with z | z
  · exact hx2 t z
  · exact hy2 t z
theorem Pas.fin {a b : List Tok} (h : Pas a b) (f : Fin a) : Fin b := by
  obtain ⟨x, rfl, _, hx2⟩ := h
  induction x with
  | nil => exact f
  | cons t r ih =>
    have f2 := fin_tail (show Fin (t :: (r ++ b)) from f) (hx2 t List.mem_cons_self)
    cases r with
    | nil => exact f2
    | cons a c => exact ih f2 (List.cons_ne_nil _ _) (fun u hu => hx2 u (List.mem_cons_of_mem _ hu))
theorem Pas.lt {a b : List Tok} (h : Pas a b) : b.length < a.length := by
  obtain ⟨x, rfl, hx, _⟩ := h
  have := List.length_pos_iff.mpr hx
  rw [List.length_append]
  omega
theorem passT_ok {w : Str} {l r : List Tok} (h : passT w l = .ok r) : ∃ t, l = t :: r ∧ t.1 = w := by
  cases l with
  | nil => cases h
  | cons t l =>
    rw [passT] at h
    split at h
    · rename_i e
      cases h
      exact ⟨t, rfl, e⟩
    · cases h
theorem passT_pas {w : Str} {l r : List Tok} (hw : w ≠ "") (h : passT w l = .ok r) : Pas l r := by
  obtain ⟨t, rfl, e⟩ := passT_ok h
  exact .one (by rw [e]; exact hw)
theorem mem_rows {α : Type} {rows : List (Str × α)} {x : Str} {ks : α} (h : rows.lookup x = some ks) : (x, ks) ∈ rows := by
  induction rows with
  | nil => cases h
  | cons a r ih =>
    rw [List.lookup_cons] at h
    split at h
    · rename_i e
      have e2 : x = a.1 := by simpa using e
      cases h
      rw [e2]
      exact List.mem_cons_self
    · exact List.mem_cons_of_mem _ (ih h)
theorem no_rows {α : Type} {rows : List (Str × α)} {x : Str} (h : rows.lookup x = none) : x ∉ rows.map (·.1) := by
  induction rows with
  | nil => simp
  | cons a r ih =>
    rw [List.lookup_cons] at h
    split at h
    · cases h
    · rename_i e
      have e2 : x ≠ a.1 := by simpa using e
      rw [List.map_cons]
      intro hm
      rcases List.mem_cons.mp hm with z | z
      · exact e2 z
      · exact ih h z
/-- the rows of the words -/
theorem row_cases {w : Str} {ks : List Str} (h : rows_EXPRESSION_PARTS.lookup w = some ks) : w ≠ "" ∧ (ks = (["expression"] : List Str) ∨ ks = (["expression", "divisor"] : List Str) ∨ ks = (["expression", "expression"] : List Str) ∨ (w = "if" ∧ ks = (["condition", "expression", "expression"] : List Str))) := by
  have h := mem_rows h
  unfold rows_EXPRESSION_PARTS at h
  simp only [List.mem_cons, List.not_mem_nil, or_false, Prod.mk.injEq] at h
  rcases h with ⟨rfl, rfl⟩ | ⟨rfl, rfl⟩ | ⟨rfl, rfl⟩ | ⟨rfl, rfl⟩ | ⟨rfl, rfl⟩ | ⟨rfl, rfl⟩ | ⟨rfl, rfl⟩ | ⟨rfl, rfl⟩ | ⟨rfl, rfl⟩ <;> exact ⟨by decide +kernel, by simp⟩
theorem row_casesC {w : Str} {ks : List Str} (h : rows_CONDITION_PARTS.lookup w = some ks) : w ≠ "" ∧ (ks = (["condition"] : List Str) ∨ ks = (["expression", "expression"] : List Str)) := by
  have h := mem_rows h
  unfold rows_CONDITION_PARTS at h
  simp only [List.mem_cons, List.not_mem_nil, or_false, Prod.mk.injEq] at h
  rcases h with ⟨rfl, rfl⟩ | ⟨rfl, rfl⟩ | ⟨rfl, rfl⟩ <;> exact ⟨by decide +kernel, by simp⟩
/-- what a reader of parts must do -/
def RpOk (rp : RP) : Prop := ∀ k l p r, rp k l = .ok (p, r) → Pas l r ∧ KdP k p
theorem rdDv_ok {l : List Tok} {p : Pt} {r : List Tok} (h : rdDv l = .ok (p, r)) : Pas l r ∧ KdP "divisor" p := by
  cases l with
  | nil => cases h
  | cons t l =>
    rw [rdDv] at h
    split at h
    · rename_i c
      cases h
      exact ⟨.one (fun e => by have := c.1; rw [e, isI_nil] at this; cases this), rfl⟩
    · cases h
theorem rdPs_ok {rp : RP} (hrp : RpOk rp) : ∀ {ks : List Str} {b : Str} {l : List Tok} {ps : List Pt} {r : List Tok}, b ≠ "" → rdPs rp ks b l = .ok (ps, r) → Pas l r ∧ KdPs ks ps
  | [], b, l, ps, r, hb, h => by
    unfold rdPs at h
    cases e : passT ")" l with
    | error c => rw [e] at h; cases h
    | ok l1 =>
      rw [e] at h
      cases h
      exact ⟨passT_pas (by decide +kernel) e, .nil⟩
  | k :: ks, b, l, ps, r, hb, h => by
    unfold rdPs at h
    cases e : passT b l with
    | error c => rw [e] at h; cases h
    | ok l1 =>
      rw [e] at h
      dsimp only at h
      cases e1 : rp k l1 with
      | error c => rw [e1] at h; cases h
      | ok x =>
        obtain ⟨p, l2⟩ := x
        rw [e1] at h
        dsimp only at h
        cases e2 : rdPs rp ks "," l2 with
        | error c => rw [e2] at h; cases h
        | ok y =>
          obtain ⟨qs, l3⟩ := y
          rw [e2] at h
          cases h
          obtain ⟨g1, g2⟩ := hrp _ _ _ _ e1
          obtain ⟨g3, g4⟩ := rdPs_ok hrp (by decide +kernel) e2
          exact ⟨(passT_pas hb e).trans (g1.trans g3), .cons g2 g4⟩
theorem rdCs_ok {rp : RP} (hrp : RpOk rp) : ∀ {n : Nat} {l : List Tok} {ps : List Pt} {r : List Tok}, rdCs rp n l = .ok (ps, r) → Pas l r ∧ ∀ p ∈ ps, KdP "condition" p
  | 0, l, ps, r, h => by cases l <;> cases h
  | n + 1, [], ps, r, h => by cases h
  | n + 1, t :: l, ps, r, h => by
    unfold rdCs at h
    split at h
    · rename_i ec
      cases e1 : rp "condition" l with
      | error c => rw [e1] at h; cases h
      | ok x =>
        obtain ⟨p, l2⟩ := x
        rw [e1] at h
        dsimp only at h
        cases e2 : rdCs rp n l2 with
        | error c => rw [e2] at h; cases h
        | ok y =>
          obtain ⟨qs, l3⟩ := y
          rw [e2] at h
          cases h
          obtain ⟨g1, g2⟩ := hrp _ _ _ _ e1
          obtain ⟨g3, g4⟩ := rdCs_ok hrp e2
          refine ⟨(Pas.one (by rw [ec]; decide +kernel)).trans (g1.trans g3), fun q hq => ?_⟩
          rcases List.mem_cons.mp hq with z | z
          · rw [z]; exact g2
          · exact g4 q z
    · split at h
      · rename_i ec
        cases h
        exact ⟨.one (by rw [ec]; decide +kernel), fun p hp => nomatch hp⟩
      · cases h
theorem rdG_ok {rp : RP} (hrp : RpOk rp) {l : List Tok} {ps : List Pt} {r : List Tok} (h : rdG rp l = .ok (ps, r)) : Pas l r ∧ ∀ p ∈ ps, KdP "condition" p := by
  unfold rdG at h
  cases e : passT "(" l with
  | error c => rw [e] at h; cases h
  | ok l1 =>
    rw [e] at h
    have h1 := passT_pas (by decide +kernel) e
    dsimp only at h
    cases l1 with
    | nil => cases h
    | cons t l1 =>
      dsimp only at h
      split at h
      · rename_i ec
        cases h
        exact ⟨h1.trans (.one (by rw [ec]; decide +kernel)), fun p hp => nomatch hp⟩
      · cases e1 : rp "condition" (t :: l1) with
        | error c => rw [e1] at h; cases h
        | ok x =>
          obtain ⟨p, l2⟩ := x
          rw [e1] at h
          dsimp only at h
          cases e2 : rdCs rp l2.length l2 with
          | error c => rw [e2] at h; cases h
          | ok y =>
            obtain ⟨qs, l3⟩ := y
            rw [e2] at h
            cases h
            obtain ⟨g1, g2⟩ := hrp _ _ _ _ e1
            obtain ⟨g3, g4⟩ := rdCs_ok hrp e2
            refine ⟨h1.trans (g1.trans g3), fun q hq => ?_⟩
            rcases List.mem_cons.mp hq with z | z
            · rw [z]; exact g2
            · exact g4 q z
theorem rdE_ok {rp : RP} (hrp : RpOk rp) {l : List Tok} {p : Pt} {r : List Tok} (h : rdE rp l = .ok (p, r)) : Pas l r ∧ ∃ i, p = .ex i := by
  cases l with
  | nil => cases h
  | cons t l =>
    rw [rdE] at h
    split at h
    · rename_i c
      cases h
      exact ⟨.one (fun e => by rw [e, isI_nil] at c; cases c), _, rfl⟩
    · split at h
      · rename_i c
        cases h
        exact ⟨.one (fun e => by rw [e, isN_nil] at c; cases c), _, rfl⟩
      · cases el : rows_EXPRESSION_PARTS.lookup t.1 with
        | none => rw [el] at h; cases h
        | some ks =>
          rw [el] at h
          dsimp only at h
          cases e2 : rdPs rp ks "(" l with
          | error c => rw [e2] at h; cases h
          | ok y =>
            obtain ⟨qs, l3⟩ := y
            rw [e2] at h
            cases h
            exact ⟨(Pas.one (row_cases el).1).trans (rdPs_ok hrp (by decide +kernel) e2).1, _, rfl⟩
theorem rdC_ok {rp : RP} (hrp : RpOk rp) {l : List Tok} {p : Pt} {r : List Tok} (h : rdC rp l = .ok (p, r)) : Pas l r ∧ ∃ i, p = .ex i := by
  cases l with
  | nil => cases h
  | cons t l =>
    rw [rdC] at h
    split at h
    · rename_i c
      cases h
      exact ⟨.one (fun e => by rw [e] at c; exact absurd c (by decide +kernel)), _, rfl⟩
    · split at h
      · rename_i c
        cases e2 : rdG rp l with
        | error c => rw [e2] at h; cases h
        | ok y =>
          obtain ⟨qs, l3⟩ := y
          rw [e2] at h
          cases h
          exact ⟨(Pas.one fun e => by rw [e] at c; exact absurd c (by decide +kernel)).trans (rdG_ok hrp e2).1, _, rfl⟩
      · cases el : rows_CONDITION_PARTS.lookup t.1 with
        | none => rw [el] at h; cases h
        | some ks =>
          rw [el] at h
          dsimp only at h
          cases e2 : rdPs rp ks "(" l with
          | error c => rw [e2] at h; cases h
          | ok y =>
            obtain ⟨qs, l3⟩ := y
            rw [e2] at h
            cases h
            exact ⟨(Pas.one (row_casesC el).1).trans (rdPs_ok hrp (by decide +kernel) e2).1, _, rfl⟩
theorem rdPt_ok : ∀ m : Nat, RpOk (rdPt m)
  | 0, k, l, p, r, h => by
    unfold rdPt at h
    split at h
    · rename_i c
      subst c
      exact rdDv_ok h
    · cases h
  | m + 1, k, l, p, r, h => by
    unfold rdPt at h
    split at h
    · rename_i c
      subst c
      exact rdDv_ok h
    · rename_i c
      split at h
      · obtain ⟨g, i, rfl⟩ := rdE_ok (rdPt_ok m) h
        exact ⟨g, c⟩
      · obtain ⟨g, i, rfl⟩ := rdC_ok (rdPt_ok m) h
        exact ⟨g, c⟩
end NL

namespace NL
open PySem PySem.Spec PyProof.Rows L2 HotX
/-! ### what the readers promise of ANY tokens -/
structure Tz (ts : List Tok) : Prop where
  len : ts.length ≤ 10000000
  tok : ∀ t ∈ ts, t.1.length ≤ 10000000
theorem drop_mem {α : Type} {l r : List α} {n : Nat} {c : α} (h : l.drop n = c :: r) : c ∈ l := List.mem_of_mem_drop (i := n) (by rw [h]; exact List.mem_cons_self)
theorem TokIn.tok {H : Hp} {q : Addr} {ts : List Tok} (h : TokIn H q ts) {n : Nat} {t : Tok} {r : List Tok} (e : ts.drop n = t :: r) : ∃ xs a, H q = some (.lst xs) ∧ atI xs (n : Int) = some (.ref a) ∧ H a = some (.tup [.str t.1, .int (t.2 : Nat)]) := by
  obtain ⟨xs, eq, tl⟩ := h
  obtain ⟨a, h2, h3⟩ := tl.2 n t (drop_cons e).1
  exact ⟨xs, a, eq, atI_nat h2, h3⟩
/-- an error with the line 1 and a column -/
abbrev BT (C : Addr) (H : Hp) (E : XK) (c : Nat) : Prop := Bad C "line" "column" H E (.int 1) (.int (c : Nat))
def Res (C : Addr) (ts : List Tok) (H : Hp) (Q : VK) (E : XK) : Rs Pt → Prop
  | .error c => BT C H E c
  | .ok (p, r) => ∀ a v (n' : Nat) H', Same H H' → H' a = some (.tup [v, .int (n' : Int)]) → PtIn H' p v → ts.drop n' = r → Q (.ref a) H'
def ResPs (C : Addr) (ts : List Tok) (H : Hp) (Q : VK) (E : XK) : Rs (List Pt) → Prop
  | .error c => BT C H E c
  | .ok (ps, r) => ∀ a t vs (n' : Nat) H', Same H H' → H' a = some (.tup [.ref t, .int (n' : Int)]) → H' t = some (.tup vs) → PtsIn H' ps vs → ts.drop n' = r → Q (.ref a) H'
def addP (acc : List Pt) : Rs (List Pt) → Rs (List Pt)
  | .error c => .error c
  | .ok (ps, r) => .ok (acc ++ ps, r)
theorem addP_nil (x : Rs (List Pt)) : addP [] x = x := by
  rcases x with c | ⟨ps, r⟩ <;> rfl
def Kd3 (kd : Str) : Prop := kd = "divisor" ∨ kd = "expression" ∨ kd = "condition"
def spPassX (C : Addr) : Sp := fun vs H Q E => ∃ (q : Addr) (n : Nat) (w : Str) (ts : List Tok) (t : Tok) (r : List Tok), vs = [.ref q, .int (n : Int), .str w] ∧ TokIn H q ts ∧ ts.drop n = t :: r ∧ (t.1 = w → Q (.int ((n + 1 : Nat) : Int)) H) ∧ (t.1 ≠ w → BT C H E t.2)
def spDivX (C : Addr) : Sp := fun vs H Q E => ∃ (q : Addr) (n : Nat) (ts : List Tok), vs = [.ref q, .int (n : Int)] ∧ TokIn H q ts ∧ Tz ts ∧ Fin (ts.drop n) ∧ Res C ts H Q E (rdDv (ts.drop n))
def spPartX (C : Addr) (m : Nat) : Sp := fun vs H Q E => ∃ (q : Addr) (n dp : Nat) (kd : Str) (ts : List Tok), vs = [.ref q, .int (n : Int), .str kd, .int (dp : Int)] ∧ TokIn H q ts ∧ Tz ts ∧ Fin (ts.drop n) ∧ Kd3 kd ∧ dp + m = 13 ∧ Res C ts H Q E (rdPt m kd (ts.drop n))
def spEX (C : Addr) (m : Nat) : Sp := fun vs H Q E => ∃ (q : Addr) (n dp : Nat) (ts : List Tok), vs = [.ref q, .int (n : Int), .int (dp : Int)] ∧ TokIn H q ts ∧ Tz ts ∧ Fin (ts.drop n) ∧ dp + m = 12 ∧ Res C ts H Q E (rdE (rdPt m) (ts.drop n))
def spCX (C : Addr) (m : Nat) : Sp := fun vs H Q E => ∃ (q : Addr) (n dp : Nat) (ts : List Tok), vs = [.ref q, .int (n : Int), .int (dp : Int)] ∧ TokIn H q ts ∧ Tz ts ∧ Fin (ts.drop n) ∧ dp + m = 12 ∧ Res C ts H Q E (rdC (rdPt m) (ts.drop n))
def spPsX (K : PySem.W.Frag) (C : Addr) (m : Nat) : Sp := fun vs H Q E => ∃ (q kt : Addr) (n dp : Nat) (ts : List Tok) (ks : List Str), vs = [.ref q, .int (n : Int), .ref kt, .int (dp : Int)] ∧ TokIn H q ts ∧ Tz ts ∧ Fin (ts.drop n) ∧ dp + m = 13 ∧
  KT K kt (ks.map V.str) ∧ ks ≠ [] ∧ ks.length ≤ 1000 ∧ (∀ k ∈ ks, Kd3 k) ∧ ResPs C ts H Q E (rdPs (rdPt m) ks "(" (ts.drop n))
def spGX (C : Addr) (m : Nat) : Sp := fun vs H Q E => ∃ (q : Addr) (n dp : Nat) (ts : List Tok), vs = [.ref q, .int (n : Int), .int (dp : Int)] ∧ TokIn H q ts ∧ Tz ts ∧ Fin (ts.drop n) ∧ dp + m = 13 ∧ ResPs C ts H Q E (rdG (rdPt m) (ts.drop n))
def bef (j : Nat) : Str := if j = 0 then "(" else ","
theorem bef_ne (j : Nat) : bef j ≠ "" := by
  unfold bef
  split <;> decide +kernel
theorem fin_cons {l : List Tok} (h : Fin l) : ∃ t r, l = t :: r := by
  cases l with
  | nil => exact absurd rfl (fin_ne h)
  | cons t r => exact ⟨t, r, rfl⟩
section
variable {P : Program} {w : World} {K : PySem.W.Frag} {mg : Str → Option Value} {base : Heap}
theorem init_ok (EX : Exs K mg) : FnOk P w K mg base CX0 1 EX.aI EX.dI PI_BadText (spInit2 K EX.c_BadText "line" "column") := by
  refine EX.FI.ok scI_BadText (fun vs H Q E h => ?_) (fun cdv A outer s H vs Q E hr h => ?_)
  · obtain ⟨a, u, v, rfl, _⟩ := h
    rfl
  obtain ⟨a, u, v, rfl, ea, q⟩ := h
  refine ⟨_, pss_cons (ps_ost (pv 0) (pv 1)) (pss_one (ps_ost (pv 0) (pv 2))), ?_⟩
  refine ⟨_, rfl, _, rfl, a, EX.c_BadText, rfl, EX.oe, EX.n_line, .inl ⟨ea, fun d hd ne => ?_⟩⟩
  refine ⟨_, rfl, _, rfl, a, EX.c_BadText, rfl, EX.oe, EX.n_column, .inr ⟨d, _, upd_same, by rw [upd_ne ne]; exact upd_same, (Nat.le_of_ble_eq_true rfl), ?_⟩⟩
  refine q d _ hd (by rw [upd_ne (Ne.symm ne)]; exact upd_same) upd_same fun b o hb e => ?_
  have nb := ne_of_none e hd
  rw [upd_ne nb, upd_ne hb, upd_ne nb]
  exact e
/-! ### _pass_token -/
theorem rx_pass_token (T : Txt K mg) (EX : Exs K mg) : FnOk P w K mg base (L2N.CX P w) 3 T.a_pass_token T.d_pass_token P_pass_token (spPassX EX.c_BadText) := by
  have GI_BadText := init_ok (P := P) (w := w) (base := base) EX
  refine okN T.F_pass_token sc_pass_token (fun vs H Q E h => ?_) (fun cdv A outer s H vs Q E hr h => ?_)
  · obtain ⟨q, n, w, ts, t, r, rfl, _⟩ := h
    rfl
  obtain ⟨q, n, w, ts, t, r, rfl, ht, hw, k1, k2⟩ := h
  refine ⟨_, (pss_cons (ps_asg (pe_ix ix_list (pv 0) (pv 1) (fun _ _ => rfl)) (pg_tup rfl (pgs_cons (pg_name (i := 3) sc_pass_token.nd rfl (Or.inl rfl)) (pgs_cons (pg_name (i := 4) sc_pass_token.nd rfl (Or.inl rfl)) pgs_nil))))
    (pss_cons (ps_if (pt_cmpR op_ne (pv 3) (pv 2) (nomark _))
    (pss_one (L2N.ps_raise rfl (L2N.takes_of rfl rfl rfl rfl) (mk_oexN EX.oe EX.iI EX.tI GI_BadText (hr.mono (by omega)) EX.bI pass0 (by rfl) EX.g_BadText (pa_cons pe_int (pa_cons (pv 4) pa_nil)))))
    pss_nil)
    (pss_one (ps_ret (pe_op op_add (pv 1) pe_int))))), ?_⟩
  obtain ⟨xs, a, eq, hat, ha⟩ := ht.tok hw
  refine ⟨_, rfl, _, rfl, q, xs, _, _, rfl, rfl, sqd eq, hat, a, _, rfl, sqt ha, rfl, _, _, rfl, _, _, rfl, rfl, ?_⟩
  refine ⟨_, rfl, _, rfl, rfl, _, rfl, ?_⟩
  by_cases e : t.1 = w
  · refine ifF (by rw [e, decide_eq_true rfl] <;> rfl) ?_
    exact ⟨_, rfl, _, _, rfl, rfl, k1 e⟩
  · refine ifT (by rw [strE, decide_eq_false e] <;> rfl) ?_
    exact ⟨_, rfl, (Nat.le_of_ble_eq_true rfl), bad_go (k2 e)⟩
/-! ### _read_divisor -/
theorem rx_read_divisor (T : Txt K mg) (EX : Exs K mg) : FnOk P w K mg base (L2N.CX P w) 3 T.a_read_divisor T.d_read_divisor P_read_divisor (spDivX EX.c_BadText) := by
  have GI_BadText := init_ok (P := P) (w := w) (base := base) EX
  have Gis_integer := ok_is_integer (P := P) (w := w) (base := base) T
  refine okN T.F_read_divisor sc_read_divisor (fun vs H Q E h => ?_) (fun cdv A outer s H vs Q E hr h => ?_)
  · obtain ⟨q, n, ts, rfl, _⟩ := h
    rfl
  obtain ⟨q, n, ts, rfl, ht, hz, hf, g⟩ := h
  refine ⟨_, (pss_cons (ps_asg (pe_ix ix_list (pv 0) (pv 1) (fun _ _ => rfl)) (pg_tup rfl (pgs_cons (pg_name (i := 2) sc_read_divisor.nd rfl (Or.inl rfl)) (pgs_cons (pg_name (i := 3) sc_read_divisor.nd rfl (Or.inl rfl)) pgs_nil))))
    (pss_cons (ps_if (PW.pt (pw_or (pt_not (pt_val (pe_call Gis_integer (hr.mono (by omega)) (by rfl) T.mis_integer T.Fis_integer.kp T.bis_integer .nil pass0 (pa_cons (pv 2) pa_nil)))) (pw_or1 (pt_cmpR op_lt (pe_callTy call_int_str (by rfl) T.z_int (by decide +kernel) (pa_cons (pv 2) pa_nil)) pe_int (nomark _)))))
    (pss_one (L2N.ps_raise rfl (L2N.takes_of rfl rfl rfl rfl) (mk_oexN EX.oe EX.iI EX.tI GI_BadText (hr.mono (by omega)) EX.bI pass0 (by rfl) EX.g_BadText (pa_cons pe_int (pa_cons (pv 3) pa_nil)))))
    pss_nil)
    (pss_one (ps_ret (pe_tup (pa_cons (pe_callTy call_int_str (by rfl) T.z_int (by decide +kernel) (pa_cons (pv 2) pa_nil)) (pa_cons (pe_op op_add (pv 1) pe_int) pa_nil))))))), ?_⟩
  obtain ⟨t, r, hw⟩ := fin_cons hf
  obtain ⟨xs, a, eq, hat, ha⟩ := ht.tok hw
  have hl := hz.tok _ (drop_mem hw)
  rw [hw, rdDv] at g
  refine ⟨_, rfl, _, rfl, q, xs, _, _, rfl, rfl, sqd eq, hat, a, _, rfl, sqt ha, rfl, _, _, rfl, _, _, rfl, rfl, ?_⟩
  refine ⟨_, rfl, _, rfl, hl, _, rfl, ?_⟩
  by_cases hi : isI t.1 = true
  · refine ifF (by rw [hi] <;> rfl) ?_
    obtain ⟨e1, e2⟩ := ival_read hi
    refine ⟨_, rfl, _, _, rfl, e1, Nat.le_trans e2 (by decide), _, _, rfl, rfl, _, rfl, ?_⟩
    by_cases h1 : 1 ≤ ival t.1
    · rw [if_pos ⟨hi, h1⟩] at g
      refine ifF (decide_eq_false (by omega)) ?_
      refine ⟨_, rfl, _, _, rfl, e1, Nat.le_trans e2 (by decide), _, rfl, _, _, rfl, rfl, (Nat.le_of_ble_eq_true rfl), fun p hp => ?_⟩
      exact g p _ (n + 1) _ (same_new hp _) (by rw [upd_same] <;> rfl) rfl (drop_cons hw).2.1
    · rw [if_neg (fun z => h1 z.2)] at g
      refine ifT (decide_eq_true (by omega)) ?_
      exact ⟨_, rfl, (Nat.le_of_ble_eq_true rfl), bad_go g⟩
  · have hb : isI t.1 = false := by simpa using hi
    rw [if_neg (fun z => hi z.1)] at g
    refine ifT (by rw [hb] <;> rfl) ?_
    exact ⟨_, rfl, (Nat.le_of_ble_eq_true rfl), bad_go g⟩
/-! ### _read_parts -/
theorem rx_read_parts (T : Txt K mg) (EX : Exs K mg) {m k : Nat} (hk : 3 ≤ k) (G_read_part : FnOk P w K mg base (L2N.CX P w) k T.a_read_part T.d_read_part P_read_part (spPartX EX.c_BadText m)) :
    FnOk P w K mg base (L2N.CX P w) (k + 1) T.a_read_parts T.d_read_parts P_read_parts (spPsX K EX.c_BadText m) := by
  have G_pass_token := rx_pass_token (P := P) (w := w) (base := base) T EX
  refine okN T.F_read_parts sc_read_parts (fun vs H Q E h => ?_) (fun cdv A outer s H vs Q E hr h => ?_)
  · obtain ⟨q, kt, n, dp, ts, ks, rfl, _⟩ := h
    rfl
  obtain ⟨q, kt, n, dp, ts, ks, rfl, ht, hz, hf, hdp, hkt, hne, hkl, hkd, g⟩ := h
  refine ⟨_, (pss_cons (ps_set (i := 4) sc_read_parts.nd rfl (Or.inl rfl) (pe_lst pa_nil))
    (pss_cons (ps_set (i := 5) sc_read_parts.nd rfl (Or.inl rfl) pe_str)
    (pss_cons (ps_for (passes_of rfl) rfl (pi_tup (pv 2)) (pg_name (i := 6) sc_read_parts.nd rfl (Or.inl rfl))
    (pss_cons (ps_asg (pe_callS G_read_part (hr.mono (by omega)) (by rfl) T.m_read_part T.F_read_part.kp T.b_read_part (fun σ => L2N.passAt (L2N.takes_of rfl rfl rfl rfl) σ) (pa_cons (pv 0) (pa_cons (pe_callS G_pass_token (hr.mono (by omega)) (by rfl) T.m_pass_token T.F_pass_token.kp T.b_pass_token (fun σ => L2N.passAt (L2N.takes_of rfl rfl rfl rfl) σ) (pa_cons (pv 0) (pa_cons (pv 1) (pa_cons (pv 5) pa_nil)))) (pa_cons (pv 6) (pa_cons (pv 3) pa_nil))))) (pg_tup rfl (pgs_cons (pg_name (i := 7) sc_read_parts.nd rfl (Or.inl rfl)) (pgs_cons (pg_name (i := 1) sc_read_parts.nd rfl (Or.inl rfl)) pgs_nil))))
    (pss_cons (ps_expr (pe_bm PySem.F.plainAttrs_list PySem.F.slot_list_append PySem.F.type_list_append mt_append (pv 4) (pa_cons (pv 7) pa_nil)))
    (pss_one (ps_set (i := 5) sc_read_parts.nd rfl (Or.inl rfl) pe_str)))))
    (pss_one (ps_ret (pe_tup (pa_cons (pe_callTy call_tuple_of (by rfl) T.z_tuple (by decide +kernel) (pa_cons (pv 4) pa_nil)) (pa_cons (pe_callS G_pass_token (hr.mono (by omega)) (by rfl) T.m_pass_token T.F_pass_token.kp T.b_pass_token (fun σ => L2N.passAt (L2N.takes_of rfl rfl rfl rfl) σ) (pa_cons (pv 0) (pa_cons (pv 1) (pa_cons pe_str pa_nil)))) pa_nil)))))))), ?_⟩
  refine ⟨(by decide), fun D hD => ?_⟩
  refine ⟨_, rfl, kt, rfl, ⟨_, .inr hkt⟩, for_tup (K := K) (a := kt) (xs := ks.map V.str) (fun j σ H' => ∃ (nj : Nat) (vs : List V) (acc : List Pt) (y6 y7 : Option V), σ = [some (.ref q), some (.int (nj : Int)), some (.ref kt), some (.int (dp : Int)), some (.ref D), some (.str (bef j)), y6, y7] ∧
    Same H H' ∧ H' D = some (.lst vs) ∧ PtsIn H' acc vs ∧ acc.length = j ∧ Fin (ts.drop nj) ∧ ResPs EX.c_BadText ts H Q E (addP acc (rdPs (rdPt m) (ks.drop j) (bef j) (ts.drop nj)))) ?_ ?_ ?_ ?_⟩
  · exact ⟨n, [], [], none, none, rfl, same_new hD _, upd_same, pts0, rfl, hf, by rw [addP_nil]; exact g⟩
  · rintro j σ H' _ _
    exact .inr hkt
  · rintro j x σ H' hx ⟨nj, vs, acc, y6, y7, rfl, s1, e1, hin, hacc, hfj, hR⟩
    rw [List.getElem?_map] at hx
    cases hkj : ks[j]? with
    | none => rw [hkj] at hx; cases hx
    | some kd =>
      rw [hkj] at hx
      obtain rfl : V.str kd = x := Option.some.inj hx
      have hj := (List.getElem?_eq_some_iff.mp hkj).1
      have ekd : ks.drop j = kd :: ks.drop (j + 1) := by
        rw [List.drop_eq_getElem_cons hj, (List.getElem?_eq_some_iff.mp hkj).2]
      have h3 := hkd kd (List.mem_of_getElem? hkj)
      obtain ⟨t, r, etr⟩ := fin_cons hfj
      have htj := ht.same s1
      rw [ekd, etr, rdPs, passT] at hR
      refine ⟨_, rfl, _, rfl, _, rfl, _, rfl, q, nj, bef j, ts, t, r, rfl, htj, etr, fun ew => ?_, fun ew => ?_⟩
      · rw [if_pos ew] at hR
        dsimp only at hR
        have hn1 : ts.drop (nj + 1) = r := (drop_cons etr).2.1
        have hf1 : Fin r := fin_tail (by rw [← etr]; exact hfj) (by rw [ew]; exact bef_ne j)
        refine ⟨_, rfl, _, rfl, q, nj + 1, dp, kd, ts, rfl, htj, hz, by rw [hn1]; exact hf1, h3, hdp, ?_⟩
        rw [hn1]
        cases e2 : rdPt m kd r with
        | error c =>
          rw [e2] at hR
          exact Bad.same hR s1
        | ok x =>
          obtain ⟨p, l2⟩ := x
          rw [e2] at hR
          dsimp only at hR
          have hp2 := rdPt_ok m _ _ _ _ e2
          intro a v n2 H2 s2 ea hv hn2
          refine ⟨a, _, rfl, sqt ea, rfl, _, _, rfl, _, _, rfl, rfl, ?_⟩
          have e3 := s2 _ _ e1
          refine ⟨_, rfl, .inl ⟨rfl, _, sqd e3⟩, _, rfl, D, _, _, rfl, rfl, e3, ?_, ?_⟩
          · rw [hin.1, hacc]
            exact big' (by omega)
          refine ⟨n2, vs ++ [v], acc ++ [p], some (.str kd), some v, ?_, same_put (s1.trans s2) hD, upd_same, ?_, by rw [List.length_append, hacc] <;> rfl, by rw [hn2]; exact hp2.1.fin hf1, ?_⟩
          · unfold bef
            rw [if_neg (Nat.succ_ne_zero j)]
            rfl
          · exact ((hin.mono (Tp.same s2)).snoc hv).mono (tp_put e3)
          · rw [hn2, show bef (j + 1) = "," from if_neg (Nat.succ_ne_zero j)]
            cases e4 : rdPs (rdPt m) (ks.drop (j + 1)) "," l2 with
            | error c =>
              rw [e4] at hR
              exact hR
            | ok y =>
              obtain ⟨qs, l3⟩ := y
              rw [e4] at hR
              show ResPs _ _ _ _ _ (.ok ((acc ++ [p]) ++ qs, l3))
              rw [List.append_assoc]
              exact hR
      · rw [if_neg ew] at hR
        exact Bad.same hR s1
  · rintro σ H' ⟨nj, vs, acc, y6, y7, rfl, s1, e1, hin, hacc, hfj, hR⟩
    rw [List.length_map] at hacc hR
    rw [List.drop_length, rdPs] at hR
    obtain ⟨t, r, etr⟩ := fin_cons hfj
    rw [etr, passT] at hR
    refine ⟨_, rfl, D, _, rfl, .inl ⟨sqd e1, fun tp htp => ?_⟩⟩
    have s2 := s1.trans (same_new htp (.tup vs))
    refine ⟨_, rfl, _, rfl, q, nj, ")", ts, t, r, rfl, ht.same s2, etr, fun ew => ?_, fun ew => ?_⟩
    · rw [if_pos ew] at hR
      refine ⟨(Nat.le_of_ble_eq_true rfl), fun a ha => ?_⟩
      have s3 := fun o => same_new ha o
      have hR : ResPs _ _ _ _ _ (.ok (acc ++ [], r)) := hR
      rw [List.append_nil] at hR
      exact hR a tp vs (nj + 1) _ (s2.trans (s3 _)) (by rw [upd_same] <;> rfl) (s3 _ _ _ upd_same) (hin.mono (Tp.same ((same_new htp _).trans (s3 _)))) (drop_cons etr).2.1
    · rw [if_neg ew] at hR
      exact Bad.same hR s2
end
end NL

namespace NL
open PySem PySem.Spec PyProof.Rows L2 HotX
theorem kd_none {w : World} {K : PySem.W.Frag} {d : Addr} {es : Array DictEntry} {n : Nat} {ks : List Str} {z : Str} (D : KDict K w d es n) (hk : es.toList.map (fun e => kstr e.key) = ks) (hz : z ∉ ks) : PySem.W.nsIn K d z = some none := by
  have key : ∀ l : List DictEntry, PySem.W.KeysLit w.params l → (∀ x ∈ l.map (fun e => kstr e.key), x ≠ z) → l.find? (fun e => e.key.isStr z) = none ∧ l.any (fun e => e.refKey) = false := by
    intro l
    induction l with
    | nil => exact fun _ _ => ⟨rfl, rfl⟩
    | cons e r ih =>
      rintro ⟨⟨x, t, e1, e2⟩, hr⟩ hx
      obtain ⟨g1, g2⟩ := ih hr fun y hy => hx y (List.mem_cons_of_mem _ hy)
      have hxz : x ≠ z := by
        have := hx (kstr e.key) List.mem_cons_self
        rw [e1] at this
        exact this
      have b1 : e.key.isStr z = false := by
        rw [e1]
        show (x == z) = false
        simpa using hxz
      have b2 : e.refKey = false := by
        unfold DictEntry.refKey
        rw [e1]
      rw [List.find?_cons, b1, List.any_cons, b2]
      exact ⟨g1, g2⟩
  obtain ⟨g1, g2⟩ := key es.toList D.lit fun x hx e => hz (by rw [← hk, ← e]; exact hx)
  unfold PySem.W.nsIn
  rw [D.at_]
  dsimp only
  rw [g1, g2]
  rfl
theorem kids_of {H : Hp} : ∀ {ps : List Pt} {vs : List V}, PtsIn H ps vs → (∀ p ∈ ps, KdP "condition" p) → Kids H (ps.map Pt.it) vs := fun {ps vs} h hk => ⟨by rw [List.length_map]; exact h.1, fun k i x h1 h2 => by
  rw [List.getElem?_map] at h1
  cases e : ps[k]? with
  | none => rw [e] at h1; cases h1
  | some p =>
    rw [e] at h1
    obtain rfl := Option.some.inj h1
    have hp := hk p (List.mem_of_getElem? e)
    cases p with
    | ex i => exact h.2 k _ _ e h2
    | dv n => exact absurd hp (by show ¬ ("condition" : Str) = "divisor"; decide +kernel)⟩
/-- the parts of a row make an item -/
def Shp (w : Str) (ps : List Pt) : Prop := (∃ a, ps = [.ex a]) ∨ (∃ a n, ps = [.ex a, .dv n]) ∨ (∃ a b, ps = [.ex a, .ex b]) ∨ (w = "if" ∧ ∃ a b c, ps = [.ex a, .ex b, .ex c])
theorem mk_in {H : Hp} {w : Str} {ps : List Pt} {vs : List V} {a : Addr} (h : Shp w ps) (e : H a = some (.tup (.str w :: vs))) (hp : PtsIn H ps vs) : ItemIn H (mkI w ps) (.ref a) := by
  rcases h with ⟨x, rfl⟩ | ⟨x, n, rfl⟩ | ⟨x, y, rfl⟩ | ⟨rfl, x, y, z, rfl⟩
  · obtain ⟨v, rfl⟩ := len1 hp.1
    exact .un e (hp.2 0 _ _ rfl rfl)
  · obtain ⟨v, u, rfl⟩ := len2 hp.1
    have hu : u = .int n := hp.2 1 _ _ rfl rfl
    subst hu
    exact .dm e (hp.2 0 _ _ rfl rfl)
  · obtain ⟨v, u, rfl⟩ := len2 hp.1
    exact .bin e (hp.2 0 _ _ rfl rfl) (hp.2 1 _ _ rfl rfl)
  · obtain ⟨v, u, t, rfl⟩ := len3 hp.1
    exact .tri e (hp.2 0 _ _ rfl rfl) (hp.2 1 _ _ rfl rfl) (hp.2 2 _ _ rfl rfl)
theorem kdE {p : Pt} {k : Str} (h : KdP k p) (hk : k ≠ "divisor") : ∃ a, p = .ex a := by
  cases p with
  | ex a => exact ⟨a, rfl⟩
  | dv n => exact absurd h hk
theorem kdD {p : Pt} (h : KdP "divisor" p) : ∃ n, p = .dv n := by
  cases p with
  | ex a => exact absurd rfl h
  | dv n => exact ⟨n, rfl⟩
theorem ne_e : ("expression" : Str) ≠ "divisor" := by decide +kernel
theorem ne_c : ("condition" : Str) ≠ "divisor" := by decide +kernel
theorem shp_of {w : Str} {ks : List Str} {ps : List Pt} (hk : ks = (["expression"] : List Str) ∨ ks = (["expression", "divisor"] : List Str) ∨ ks = (["expression", "expression"] : List Str) ∨ (w = "if" ∧ ks = (["condition", "expression", "expression"] : List Str)) ∨ ks = (["condition"] : List Str)) (h : KdPs ks ps) : Shp w ps := by
  rcases hk with rfl | rfl | rfl | ⟨rfl, rfl⟩ | rfl
  · cases h with
    | cons h1 h2 =>
      cases h2
      obtain ⟨a, rfl⟩ := kdE h1 ne_e
      exact .inl ⟨a, rfl⟩
  · cases h with
    | cons h1 h2 =>
      cases h2 with
      | cons h2 h3 =>
        cases h3
        obtain ⟨a, rfl⟩ := kdE h1 ne_e
        obtain ⟨n, rfl⟩ := kdD h2
        exact .inr (.inl ⟨a, n, rfl⟩)
  · cases h with
    | cons h1 h2 =>
      cases h2 with
      | cons h2 h3 =>
        cases h3
        obtain ⟨a, rfl⟩ := kdE h1 ne_e
        obtain ⟨b, rfl⟩ := kdE h2 ne_e
        exact .inr (.inr (.inl ⟨a, b, rfl⟩))
  · cases h with
    | cons h1 h2 =>
      cases h2 with
      | cons h2 h3 =>
        cases h3 with
        | cons h3 h4 =>
          cases h4
          obtain ⟨a, rfl⟩ := kdE h1 ne_c
          obtain ⟨b, rfl⟩ := kdE h2 ne_e
          obtain ⟨c, rfl⟩ := kdE h3 ne_e
          exact .inr (.inr (.inr ⟨rfl, a, b, c, rfl⟩))
  · cases h with
    | cons h1 h2 =>
      cases h2
      obtain ⟨a, rfl⟩ := kdE h1 ne_c
      exact .inl ⟨a, rfl⟩
theorem k3_all : (∀ k ∈ (["expression"] : List Str), Kd3 k) ∧ (∀ k ∈ (["expression", "divisor"] : List Str), Kd3 k) ∧ (∀ k ∈ (["expression", "expression"] : List Str), Kd3 k) ∧ (∀ k ∈ (["condition", "expression", "expression"] : List Str), Kd3 k) ∧ ∀ k ∈ (["condition"] : List Str), Kd3 k := by
  refine ⟨?_, ?_, ?_, ?_, ?_⟩ <;> intro k hk <;> simp only [List.mem_cons, List.not_mem_nil, or_false] at hk <;> unfold Kd3
  · exact .inr (.inl hk)
  · exact hk.elim (fun h => .inr (.inl h)) .inl
  · exact .inr (.inl (hk.elim id id))
  · exact hk.elim (fun h => .inr (.inr h)) fun h => .inr (.inl (h.elim id id))
  · exact .inr (.inr hk)
theorem row_e {w : Str} {ks : List Str} (h : rows_EXPRESSION_PARTS.lookup w = some ks) : ks ≠ [] ∧ ks.length ≤ 1000 ∧ (∀ k ∈ ks, Kd3 k) ∧ ∀ ps, KdPs ks ps → Shp w ps := by
  obtain ⟨q1, q2, q3, q4, q5⟩ := k3_all
  rcases (row_cases h).2 with e | e | e | ⟨ew, e⟩
  · exact ⟨by rw [e]; exact List.cons_ne_nil _ _, by rw [e]; exact Nat.le_of_ble_eq_true rfl, by rw [e]; exact q1, fun ps hp => shp_of (.inl e) hp⟩
  · exact ⟨by rw [e]; exact List.cons_ne_nil _ _, by rw [e]; exact Nat.le_of_ble_eq_true rfl, by rw [e]; exact q2, fun ps hp => shp_of (.inr (.inl e)) hp⟩
  · exact ⟨by rw [e]; exact List.cons_ne_nil _ _, by rw [e]; exact Nat.le_of_ble_eq_true rfl, by rw [e]; exact q3, fun ps hp => shp_of (.inr (.inr (.inl e))) hp⟩
  · exact ⟨by rw [e]; exact List.cons_ne_nil _ _, by rw [e]; exact Nat.le_of_ble_eq_true rfl, by rw [e]; exact q4, fun ps hp => shp_of (.inr (.inr (.inr (.inl ⟨ew, e⟩)))) hp⟩
theorem row_c {w : Str} {ks : List Str} (h : rows_CONDITION_PARTS.lookup w = some ks) : ks ≠ [] ∧ ks.length ≤ 1000 ∧ (∀ k ∈ ks, Kd3 k) ∧ ∀ ps, KdPs ks ps → Shp w ps := by
  obtain ⟨q1, q2, q3, q4, q5⟩ := k3_all
  rcases (row_casesC h).2 with e | e
  · exact ⟨by rw [e]; exact List.cons_ne_nil _ _, by rw [e]; exact Nat.le_of_ble_eq_true rfl, by rw [e]; exact q5, fun ps hp => shp_of (.inr (.inr (.inr (.inr e)))) hp⟩
  · exact ⟨by rw [e]; exact List.cons_ne_nil _ _, by rw [e]; exact Nat.le_of_ble_eq_true rfl, by rw [e]; exact q3, fun ps hp => shp_of (.inr (.inr (.inl e))) hp⟩
theorem kdct' {w : World} {K : PySem.W.Frag} {d : Addr} {es : Array DictEntry} {n : Nat} {z : Str} {t : Addr} (D : KDict K w d es n) (h : PySem.W.nsIn K d z = some (some (.ref t))) : KDct K w d z (.ref t) := ⟨es, n, .ref t, D.at_, D.lit, h, rfl⟩
theorem inB {x : Str} {ys : List Str} {zs : List V} (hz : zs = ys.map V.str) : (if false = true then !inV (V.str x) zs else inV (V.str x) zs) = decide (x ∈ ys) := by
  rw [if_neg Bool.false_ne_true, hz, inV_str]
section
variable {P : Program} {w : World} {K : PySem.W.Frag} {mg : Str → Option Value} {base : Heap}
/-! ### _read_conditions -/
theorem rx_read_conditions (T : Txt K mg) (EX : Exs K mg) {m k : Nat} (hk : 3 ≤ k) (G_read_part : FnOk P w K mg base (L2N.CX P w) k T.a_read_part T.d_read_part P_read_part (spPartX EX.c_BadText m)) :
    FnOk P w K mg base (L2N.CX P w) (k + 1) T.a_read_conditions T.d_read_conditions P_read_conditions (spGX EX.c_BadText m) := by
  have G_pass_token := rx_pass_token (P := P) (w := w) (base := base) T EX
  refine okN T.F_read_conditions sc_read_conditions (fun vs H Q E h => ?_) (fun cdv A outer s H vs Q E hr h => ?_)
  · obtain ⟨q, n, dp, ts, rfl, _⟩ := h
    rfl
  obtain ⟨q, n, dp, ts, rfl, ht, hz, hf, hdp, g⟩ := h
  refine ⟨_, (pss_cons (ps_set (i := 1) sc_read_conditions.nd rfl (Or.inl rfl) (pe_callS G_pass_token (hr.mono (by omega)) (by rfl) T.m_pass_token T.F_pass_token.kp T.b_pass_token (fun σ => L2N.passAt (L2N.takes_of rfl rfl rfl rfl) σ) (pa_cons (pv 0) (pa_cons (pv 1) (pa_cons pe_str pa_nil)))))
    (pss_cons (ps_if (pt_cmpR op_eq (pe_ix ix_tup (pe_ix ix_list (pv 0) (pv 1) (fun _ _ => rfl)) pe_int (fun _ _ => rfl)) pe_str (nomark _))
    (pss_one (ps_ret (pe_tup (pa_cons (pe_tup pa_nil) (pa_cons (pe_op op_add (pv 1) pe_int) pa_nil)))))
    pss_nil)
    (pss_cons (ps_asg (pe_callS G_read_part (hr.mono (by omega)) (by rfl) T.m_read_part T.F_read_part.kp T.b_read_part (fun σ => L2N.passAt (L2N.takes_of rfl rfl rfl rfl) σ) (pa_cons (pv 0) (pa_cons (pv 1) (pa_cons pe_str (pa_cons (pv 2) pa_nil))))) (pg_tup rfl (pgs_cons (pg_name (i := 3) sc_read_conditions.nd rfl (Or.inl rfl)) (pgs_cons (pg_name (i := 1) sc_read_conditions.nd rfl (Or.inl rfl)) pgs_nil))))
    (pss_cons (ps_set (i := 4) sc_read_conditions.nd rfl (Or.inl rfl) (pe_lst (pa_cons (pv 3) pa_nil)))
    (pss_cons (ps_while (passes_of rfl) (pt_cmpR op_eq (pe_ix ix_tup (pe_ix ix_list (pv 0) (pv 1) (fun _ _ => rfl)) pe_int (fun _ _ => rfl)) pe_str (nomark _))
    (pss_cons (ps_asg (pe_callS G_read_part (hr.mono (by omega)) (by rfl) T.m_read_part T.F_read_part.kp T.b_read_part (fun σ => L2N.passAt (L2N.takes_of rfl rfl rfl rfl) σ) (pa_cons (pv 0) (pa_cons (pe_op op_add (pv 1) pe_int) (pa_cons pe_str (pa_cons (pv 2) pa_nil))))) (pg_tup rfl (pgs_cons (pg_name (i := 5) sc_read_conditions.nd rfl (Or.inl rfl)) (pgs_cons (pg_name (i := 1) sc_read_conditions.nd rfl (Or.inl rfl)) pgs_nil))))
    (pss_one (ps_expr (pe_bm PySem.F.plainAttrs_list PySem.F.slot_list_append PySem.F.type_list_append mt_append (pv 4) (pa_cons (pv 5) pa_nil))))))
    (pss_one (ps_ret (pe_tup (pa_cons (pe_callTy call_tuple_of (by rfl) T.z_tuple (by decide +kernel) (pa_cons (pv 4) pa_nil)) (pa_cons (pe_callS G_pass_token (hr.mono (by omega)) (by rfl) T.m_pass_token T.F_pass_token.kp T.b_pass_token (fun σ => L2N.passAt (L2N.takes_of rfl rfl rfl rfl) σ) (pa_cons (pv 0) (pa_cons (pv 1) (pa_cons pe_str pa_nil)))) pa_nil)))))))))), ?_⟩
  obtain ⟨t, r, etr⟩ := fin_cons hf
  rw [rdG, etr, passT] at g
  refine ⟨_, rfl, _, rfl, q, n, "(", ts, t, r, rfl, ht, etr, fun ew => ?_, fun ew => ?_⟩
  rotate_left
  · rw [if_neg ew] at g
    exact g
  rw [if_pos ew] at g
  dsimp only at g
  have hn1 : ts.drop (n + 1) = r := (drop_cons etr).2.1
  have hf1 : Fin r := fin_tail (by rw [← etr]; exact hf) (by rw [ew]; decide +kernel)
  obtain ⟨t1, r1, e1⟩ := fin_cons hf1
  rw [e1] at g hn1
  dsimp only at g
  obtain ⟨xs1, a1, eq1, hat1, ha1⟩ := ht.tok hn1
  refine ⟨_, rfl, _, rfl, q, _, _, _, rfl, rfl, sqd eq1, hat1, a1, _, 0, _, rfl, rfl, sqt ha1, atI0, rfl, _, rfl, ?_⟩
  by_cases ec : t1.1 = ")"
  · rw [if_pos ec] at g
    refine ifT (by rw [strE, decide_eq_true ec]) ?_
    refine ⟨(Nat.le_of_ble_eq_true rfl), fun t' ht' => ⟨_, rfl, _, _, rfl, rfl, (Nat.le_of_ble_eq_true rfl), fun p hp => ?_⟩⟩
    have s1 := same_new ht' (.tup [])
    exact g p t' [] (n + 1 + 1) _ (s1.trans (same_new hp _)) (by rw [upd_same] <;> rfl) (same_new hp _ _ _ upd_same) pts0 (drop_cons hn1).2.1
  rw [if_neg ec] at g
  refine ifF (by rw [strE, decide_eq_false ec]) ?_
  refine ⟨_, rfl, _, rfl, _, rfl, q, n + 1, dp, "condition", ts, rfl, ht, hz, by rw [hn1, ← e1]; exact hf1, .inr (.inr rfl), hdp, ?_⟩
  rw [hn1]
  cases e2 : rdPt m "condition" (t1 :: r1) with
  | error c =>
    rw [e2] at g
    exact g
  | ok x =>
    obtain ⟨p0, l2⟩ := x
    rw [e2] at g
    dsimp only at g
    have hp2 := rdPt_ok m _ _ _ _ e2
    intro b v n2 H1 s1 eb hv hn2
    refine ⟨b, _, rfl, sqt eb, rfl, _, _, rfl, _, _, rfl, rfl, ?_⟩
    refine ⟨_, rfl, (Nat.le_of_ble_eq_true rfl), fun D hD => ?_⟩
    have hHD : H D = none := s1.free hD
    have hf2 : Fin l2 := hp2.1.fin (by rw [← e1]; exact hf1)
    have hlen2 : l2.length + 1 ≤ ts.length := by
      have := hp2.1.lt
      have h3 := congrArg List.length hn1
      rw [List.length_drop] at h3
      omega
    refine ⟨fun mm σ H' => ∃ (nj fu : Nat) (vs : List V) (acc : List Pt) (y : Option V), σ = [some (.ref q), some (.int (nj : Int)), some (.int (dp : Int)), some v, some (.ref D), y] ∧ Same H H' ∧ H' D = some (.lst vs) ∧ PtsIn H' acc vs ∧ Fin (ts.drop nj) ∧ (ts.drop nj).length ≤ fu ∧ mm = (ts.drop nj).length ∧ acc.length + (ts.drop nj).length ≤ ts.length ∧
      ResPs EX.c_BadText ts H Q E (addP acc (rdCs (rdPt m) fu (ts.drop nj))), ⟨_, n2, l2.length, [v], [p0], none, rfl, s1.trans (same_new hD _), upd_same, ?_, by rw [hn2]; exact hf2, by rw [hn2]; exact Nat.le_refl _, rfl, ?_, ?_⟩, ?_⟩
    · have := pts0.snoc (H := upd H1 D (.lst [v])) (p := p0) (v := v) (hv.mono (Tp.same (same_new hD _)))
      exact this
    · rw [hn2, List.length_singleton]; omega
    · rw [hn2]
      cases e3 : rdCs (rdPt m) l2.length l2 with
      | error c => rw [e3] at g; exact g
      | ok y => obtain ⟨qs, l3⟩ := y; rw [e3] at g; exact g
    rintro mm σ H' ⟨nj, fu, vs, acc, y, rfl, s2, e4, hin, hfj, hfu, rfl, hacc, hR⟩
    have htj := ht.same s2
    obtain ⟨tj, rj, ej⟩ := fin_cons hfj
    obtain ⟨xs2, a2, eq2, hat2, ha2⟩ := htj.tok ej
    refine ⟨_, rfl, _, rfl, q, _, _, _, rfl, rfl, sqd eq2, hat2, a2, _, 0, _, rfl, rfl, sqt ha2, atI0, rfl, _, rfl, ?_⟩
    rw [ej, List.length_cons] at hfu hacc
    obtain ⟨fu, rfl⟩ : ∃ f, fu = f + 1 := ⟨fu - 1, by omega⟩
    rw [ej, rdCs] at hR
    have hnj : ts.drop (nj + 1) = rj := (drop_cons ej).2.1
    by_cases ek : tj.1 = ","
    · rw [if_pos ek] at hR
      refine ifT (by rw [strE, decide_eq_true ek]) ?_
      refine ⟨fun σ' H'' => ∃ m', m' < (ts.drop nj).length ∧ ∃ (nj fu : Nat) (vs : List V) (acc : List Pt) (y : Option V), σ' = [some (.ref q), some (.int (nj : Int)), some (.int (dp : Int)), some v, some (.ref D), y] ∧ Same H H'' ∧ H'' D = some (.lst vs) ∧ PtsIn H'' acc vs ∧ Fin (ts.drop nj) ∧ (ts.drop nj).length ≤ fu ∧ m' = (ts.drop nj).length ∧ acc.length + (ts.drop nj).length ≤ ts.length ∧
        ResPs EX.c_BadText ts H Q E (addP acc (rdCs (rdPt m) fu (ts.drop nj))), fun _ _ h => h, ?_⟩
      have hfr : Fin rj := fin_tail (by rw [← ej]; exact hfj) (by rw [ek]; decide +kernel)
      refine ⟨_, rfl, _, rfl, _, _, rfl, rfl, _, rfl, q, nj + 1, dp, "condition", ts, rfl, htj, hz, by rw [hnj]; exact hfr, .inr (.inr rfl), hdp, ?_⟩
      rw [hnj]
      cases e5 : rdPt m "condition" rj with
      | error c =>
        rw [e5] at hR
        exact Bad.same hR s2
      | ok x =>
        obtain ⟨p5, l5⟩ := x
        rw [e5] at hR
        dsimp only at hR
        have hp5 := rdPt_ok m _ _ _ _ e5
        have hl5 := hp5.1.lt
        intro b2 v2 n5 H2 s3 eb2 hv2 hn5
        refine ⟨b2, _, rfl, sqt eb2, rfl, _, _, rfl, _, _, rfl, rfl, ?_⟩
        have e6 := s3 _ _ e4
        have htl := hz.len
        refine ⟨_, rfl, .inl ⟨rfl, _, sqd e6⟩, _, rfl, D, _, _, rfl, rfl, e6, ?_, ?_⟩
        · rw [hin.1]
          exact szl' (by omega)
        refine ⟨l5.length, by rw [ej, List.length_cons]; omega, n5, fu, vs ++ [v2], acc ++ [p5], _, rfl, same_put (s2.trans s3) hHD, upd_same, ((hin.mono (Tp.same s3)).snoc hv2).mono (tp_put e6), by rw [hn5]; exact hp5.1.fin hfr, by rw [hn5]; omega, by rw [hn5], by rw [hn5, List.length_append, List.length_singleton]; omega, ?_⟩
        rw [hn5]
        cases e7 : rdCs (rdPt m) fu l5 with
        | error c => rw [e7] at hR; exact hR
        | ok y =>
          obtain ⟨qs, l7⟩ := y
          rw [e7] at hR
          show ResPs _ _ _ _ _ (.ok ((acc ++ [p5]) ++ qs, l7))
          rw [List.append_assoc]
          exact hR
    · rw [if_neg ek] at hR
      refine ifF (by rw [strE, decide_eq_false ek]) ?_
      refine ⟨_, rfl, D, _, rfl, .inl ⟨sqd e4, fun tp htp => ?_⟩⟩
      have s3 := s2.trans (same_new htp (.tup vs))
      refine ⟨_, rfl, _, rfl, q, nj, ")", ts, tj, rj, rfl, ht.same s3, ej, fun ew2 => ?_, fun ew2 => ?_⟩
      · rw [if_pos ew2] at hR
        refine ⟨(Nat.le_of_ble_eq_true rfl), fun p hp => ?_⟩
        have s4 := fun o => same_new hp o
        have hR : ResPs _ _ _ _ _ (.ok (acc ++ [], rj)) := hR
        rw [List.append_nil] at hR
        exact hR p tp vs (nj + 1) _ (s3.trans (s4 _)) (by rw [upd_same] <;> rfl) (s4 _ _ _ upd_same) (hin.mono (Tp.same ((same_new htp _).trans (s4 _)))) hnj
      · rw [if_neg ew2] at hR
        exact Bad.same hR s3
/-! ### _read_expression -/
theorem rx_read_expression (T : Txt K mg) (D : Dic K w mg) (EX : Exs K mg) {m k : Nat} (hk : 3 ≤ k) (G_read_parts : FnOk P w K mg base (L2N.CX P w) k T.a_read_parts T.d_read_parts P_read_parts (spPsX K EX.c_BadText m)) :
    FnOk P w K mg base (L2N.CX P w) (k + 1) T.a_read_expression T.d_read_expression P_read_expression (spEX EX.c_BadText m) := by
  have GI_BadText := init_ok (P := P) (w := w) (base := base) EX
  have Gis_integer := ok_is_integer (P := P) (w := w) (base := base) T
  have Gis_name := ok_is_name (P := P) (w := w) (base := base) T
  refine okN T.F_read_expression sc_read_expression (fun vs H Q E h => ?_) (fun cdv A outer s H vs Q E hr h => ?_)
  · obtain ⟨q, n, dp, ts, rfl, _⟩ := h
    rfl
  obtain ⟨q, n, dp, ts, rfl, ht, hz, hf, hdp, g⟩ := h
  refine ⟨_, (pss_cons (ps_asg (pe_ix ix_list (pv 0) (pv 1) (fun _ _ => rfl)) (pg_tup rfl (pgs_cons (pg_name (i := 3) sc_read_expression.nd rfl (Or.inl rfl)) (pgs_cons (pg_name (i := 4) sc_read_expression.nd rfl (Or.inl rfl)) pgs_nil))))
    (pss_cons (ps_if (pt_val (pe_call Gis_integer (hr.mono (by omega)) (by rfl) T.mis_integer T.Fis_integer.kp T.bis_integer .nil pass0 (pa_cons (pv 3) pa_nil)))
    (pss_one (ps_ret (pe_tup (pa_cons (pe_tup (pa_cons pe_str (pa_cons (pe_callTy call_int_str (by rfl) T.z_int (by decide +kernel) (pa_cons (pv 3) pa_nil)) pa_nil))) (pa_cons (pe_op op_add (pv 1) pe_int) pa_nil)))))
    pss_nil)
    (pss_cons (ps_if (pt_val (pe_call Gis_name (hr.mono (by omega)) (by rfl) T.mis_name T.Fis_name.kp T.bis_name .nil pass0 (pa_cons (pv 3) pa_nil)))
    (pss_one (ps_ret (pe_tup (pa_cons (pe_tup (pa_cons pe_str (pa_cons (pv 3) pa_nil))) (pa_cons (pe_op op_add (pv 1) pe_int) pa_nil)))))
    pss_nil)
    (pss_cons (ps_if (pt_cmpR (op_notIn_kd D.D_EXPRESSION_PARTS) (pv 3) (pe_glob (v := .ref D.c_EXPRESSION_PARTS) rfl D.g_EXPRESSION_PARTS rfl) (by rfl))
    (pss_one (L2N.ps_raise rfl (L2N.takes_of rfl rfl rfl rfl) (mk_oexN EX.oe EX.iI EX.tI GI_BadText (hr.mono (by omega)) EX.bI pass0 (by rfl) EX.g_BadText (pa_cons pe_int (pa_cons (pv 4) pa_nil)))))
    pss_nil)
    (pss_cons (ps_asg (pe_callS G_read_parts (hr.mono (by omega)) (by rfl) T.m_read_parts T.F_read_parts.kp T.b_read_parts (fun σ => L2N.passAt (L2N.takes_of rfl rfl rfl rfl) σ) (pa_cons (pv 0) (pa_cons (pe_op op_add (pv 1) pe_int) (pa_cons (pe_ix ix_kdict (pe_glob (v := .ref D.c_EXPRESSION_PARTS) rfl D.g_EXPRESSION_PARTS rfl) (pv 3) (fun _ _ => rfl)) (pa_cons (pe_op op_add (pv 2) pe_int) pa_nil))))) (pg_tup rfl (pgs_cons (pg_name (i := 5) sc_read_expression.nd rfl (Or.inl rfl)) (pgs_cons (pg_name (i := 6) sc_read_expression.nd rfl (Or.inl rfl)) pgs_nil))))
    (pss_one (ps_ret (pe_tup (pa_cons (pe_op op_catA (pe_tup (pa_cons (pv 3) pa_nil)) (pv 5)) (pa_cons (pv 6) pa_nil)))))))))), ?_⟩
  obtain ⟨t, r, etr⟩ := fin_cons hf
  obtain ⟨xs1, a, eq, hat, ha⟩ := ht.tok etr
  have hl := hz.tok _ (drop_mem etr)
  have hn1 : ts.drop (n + 1) = r := (drop_cons etr).2.1
  rw [etr, rdE] at g
  refine ⟨_, rfl, _, rfl, q, _, _, _, rfl, rfl, sqd eq, hat, a, _, rfl, sqt ha, rfl, _, _, rfl, _, _, rfl, rfl, ?_⟩
  refine ⟨_, rfl, _, rfl, hl, _, rfl, ?_⟩
  by_cases hi : isI t.1 = true
  · rw [if_pos hi] at g
    refine ifT hi ?_
    obtain ⟨e1, e2⟩ := ival_read hi
    refine ⟨_, rfl, _, _, rfl, e1, Nat.le_trans e2 (by decide), (Nat.le_of_ble_eq_true rfl), fun p hp => ⟨_, rfl, _, _, rfl, rfl, (Nat.le_of_ble_eq_true rfl), fun p2 hp2 => ?_⟩⟩
    exact g p2 _ (n + 1) _ ((same_new hp _).trans (same_new hp2 _)) (by rw [upd_same] <;> rfl) (.num (same_new hp2 _ _ _ upd_same)) hn1
  rw [if_neg hi] at g
  have hi' : isI t.1 = false := by simpa using hi
  refine ifF hi' ?_
  refine ⟨_, rfl, _, rfl, hl, _, rfl, ?_⟩
  by_cases hn : isN t.1 = true
  · rw [if_pos hn] at g
    refine ifT hn ?_
    refine ⟨_, rfl, (Nat.le_of_ble_eq_true rfl), fun p hp => ⟨_, rfl, _, _, rfl, rfl, (Nat.le_of_ble_eq_true rfl), fun p2 hp2 => ?_⟩⟩
    exact g p2 _ (n + 1) _ ((same_new hp _).trans (same_new hp2 _)) (by rw [upd_same] <;> rfl) (.name (same_new hp2 _ _ _ upd_same)) hn1
  rw [if_neg hn] at g
  have hn' : isN t.1 = false := by simpa using hn
  refine ifF hn' ?_
  cases el : rows_EXPRESSION_PARTS.lookup t.1 with
  | none =>
    rw [el] at g
    have hns := kd_none D.D_EXPRESSION_PARTS D.y_EXPRESSION_PARTS (no_rows el)
    refine ⟨_, rfl, _, _, rfl, rfl, hns, _, rfl, ?_⟩
    refine ifT rfl ?_
    exact ⟨_, rfl, (Nat.le_of_ble_eq_true rfl), bad_go g⟩
  | some ks =>
    rw [el] at g
    dsimp only at g
    obtain ⟨tk, hns, hkt⟩ := D.q_EXPRESSION_PARTS _ _ (mem_rows el)
    obtain ⟨k1, k2, k3, k4⟩ := row_e el
    refine ⟨_, rfl, _, _, rfl, rfl, hns, _, rfl, ?_⟩
    refine ifF rfl ?_
    have hfr : Fin r := fin_tail (by rw [← etr]; exact hf) (row_cases el).1
    refine ⟨_, rfl, _, rfl, _, _, rfl, rfl, _, rfl, _, _, _, rfl, rfl, kdct' D.D_EXPRESSION_PARTS hns, _, rfl, _, _, rfl, rfl, ?_⟩
    refine ⟨q, tk, n + 1, dp + 1, ts, ks, rfl, ht, hz, by rw [hn1]; exact hfr, by omega, hkt, k1, k2, k3, ?_⟩
    rw [hn1]
    cases e2 : rdPs (rdPt m) ks "(" r with
    | error c => rw [e2] at g; exact g
    | ok x =>
      obtain ⟨ps, l2⟩ := x
      rw [e2] at g
      have hps := rdPs_ok (rdPt_ok m) (by decide +kernel) e2
      intro b tt vs n2 H1 s1 eb et hin hn2
      refine ⟨b, _, rfl, sqt eb, rfl, _, _, rfl, _, _, rfl, rfl, ?_⟩
      have hsh := k4 ps hps.2
      have hvl : vs ≠ [] ∧ vs.length ≤ 1000 := by
        have h1 := hin.1
        rcases hsh with ⟨x, rfl⟩ | ⟨x, n, rfl⟩ | ⟨x, y, rfl⟩ | ⟨_, x, y, z, rfl⟩ <;> exact ⟨(fun e => by rw [e] at h1; cases h1), by rw [h1]; exact Nat.le_of_ble_eq_true rfl⟩
      refine ⟨_, rfl, (Nat.le_of_ble_eq_true rfl), fun p1 hp1 => ⟨_, rfl, p1, tt, _, _, rfl, rfl, sqt upd_same, sqt (same_new hp1 _ _ _ et), ?_, (fun e => by cases e), (fun _ e => absurd e hvl.1), fun _ _ p2 hp2 => ⟨_, rfl, (Nat.le_of_ble_eq_true rfl), fun p3 hp3 => ?_⟩⟩⟩
      · rw [List.length_singleton]
        exact big (by omega)
      have s2 := (same_new hp1 (.tup [.str t.1])).trans ((same_new hp2 (.tup ([.str t.1] ++ vs))).trans (same_new hp3 (.tup [.ref p2, .int ((n2 : Nat) : Int)])))
      exact g p3 (.ref p2) n2 _ (s1.trans s2) (by rw [upd_same]) (mk_in hsh (same_new hp3 _ _ _ upd_same) (hin.mono (Tp.same s2))) hn2
/-! ### _read_condition -/
theorem rx_read_condition (T : Txt K mg) (D : Dic K w mg) (EX : Exs K mg) {m k : Nat} (hk : 3 ≤ k) (G_read_parts : FnOk P w K mg base (L2N.CX P w) k T.a_read_parts T.d_read_parts P_read_parts (spPsX K EX.c_BadText m))
    (G_read_conditions : FnOk P w K mg base (L2N.CX P w) k T.a_read_conditions T.d_read_conditions P_read_conditions (spGX EX.c_BadText m)) :
    FnOk P w K mg base (L2N.CX P w) (k + 1) T.a_read_condition T.d_read_condition P_read_condition (spCX EX.c_BadText m) := by
  have GI_BadText := init_ok (P := P) (w := w) (base := base) EX
  refine okN T.F_read_condition sc_read_condition (fun vs H Q E h => ?_) (fun cdv A outer s H vs Q E hr h => ?_)
  · obtain ⟨q, n, dp, ts, rfl, _⟩ := h
    rfl
  obtain ⟨q, n, dp, ts, rfl, ht, hz, hf, hdp, g⟩ := h
  refine ⟨_, (pss_cons (ps_asg (pe_ix ix_list (pv 0) (pv 1) (fun _ _ => rfl)) (pg_tup rfl (pgs_cons (pg_name (i := 3) sc_read_condition.nd rfl (Or.inl rfl)) (pgs_cons (pg_name (i := 4) sc_read_condition.nd rfl (Or.inl rfl)) pgs_nil))))
    (pss_cons (ps_if (pt_cmpR op_in_seq (pv 3) (pe_tup (pa_cons pe_str (pa_cons pe_str pa_nil))) (by rfl))
    (pss_one (ps_ret (pe_tup (pa_cons (pe_tup (pa_cons (pv 3) pa_nil)) (pa_cons (pe_op op_add (pv 1) pe_int) pa_nil)))))
    pss_nil)
    (pss_cons (ps_if (pt_cmpR op_in_seq (pv 3) (pe_tup (pa_cons pe_str (pa_cons pe_str pa_nil))) (by rfl))
    (pss_cons (ps_asg (pe_callS G_read_conditions (hr.mono (by omega)) (by rfl) T.m_read_conditions T.F_read_conditions.kp T.b_read_conditions (fun σ => L2N.passAt (L2N.takes_of rfl rfl rfl rfl) σ) (pa_cons (pv 0) (pa_cons (pe_op op_add (pv 1) pe_int) (pa_cons (pe_op op_add (pv 2) pe_int) pa_nil)))) (pg_tup rfl (pgs_cons (pg_name (i := 5) sc_read_condition.nd rfl (Or.inl rfl)) (pgs_cons (pg_name (i := 6) sc_read_condition.nd rfl (Or.inl rfl)) pgs_nil))))
    (pss_one (ps_ret (pe_tup (pa_cons (pe_tup (pa_cons (pv 3) (pa_cons (pv 5) pa_nil))) (pa_cons (pv 6) pa_nil))))))
    pss_nil)
    (pss_cons (ps_if (pt_cmpR (op_notIn_kd D.D_CONDITION_PARTS) (pv 3) (pe_glob (v := .ref D.c_CONDITION_PARTS) rfl D.g_CONDITION_PARTS rfl) (by rfl))
    (pss_one (L2N.ps_raise rfl (L2N.takes_of rfl rfl rfl rfl) (mk_oexN EX.oe EX.iI EX.tI GI_BadText (hr.mono (by omega)) EX.bI pass0 (by rfl) EX.g_BadText (pa_cons pe_int (pa_cons (pv 4) pa_nil)))))
    pss_nil)
    (pss_cons (ps_asg (pe_callS G_read_parts (hr.mono (by omega)) (by rfl) T.m_read_parts T.F_read_parts.kp T.b_read_parts (fun σ => L2N.passAt (L2N.takes_of rfl rfl rfl rfl) σ) (pa_cons (pv 0) (pa_cons (pe_op op_add (pv 1) pe_int) (pa_cons (pe_ix ix_kdict (pe_glob (v := .ref D.c_CONDITION_PARTS) rfl D.g_CONDITION_PARTS rfl) (pv 3) (fun _ _ => rfl)) (pa_cons (pe_op op_add (pv 2) pe_int) pa_nil))))) (pg_tup rfl (pgs_cons (pg_name (i := 7) sc_read_condition.nd rfl (Or.inl rfl)) (pgs_cons (pg_name (i := 6) sc_read_condition.nd rfl (Or.inl rfl)) pgs_nil))))
    (pss_one (ps_ret (pe_tup (pa_cons (pe_op op_catA (pe_tup (pa_cons (pv 3) pa_nil)) (pv 7)) (pa_cons (pv 6) pa_nil)))))))))), ?_⟩
  obtain ⟨t, r, etr⟩ := fin_cons hf
  obtain ⟨xs1, a, eq, hat, ha⟩ := ht.tok etr
  have hn1 : ts.drop (n + 1) = r := (drop_cons etr).2.1
  rw [etr, rdC] at g
  refine ⟨_, rfl, _, rfl, q, _, _, _, rfl, rfl, sqd eq, hat, a, _, rfl, sqt ha, rfl, _, _, rfl, _, _, rfl, rfl, ?_⟩
  refine ⟨_, rfl, (Nat.le_of_ble_eq_true rfl), fun p1 hp1 => ?_⟩
  have s1 := fun o => same_new hp1 o
  refine ⟨p1, _, rfl, .inr (sqt upd_same), rfl, by decide +kernel, _, rfl, ?_⟩
  by_cases h0 : t.1 ∈ (["true", "false"] : List Str)
  · rw [if_pos h0] at g
    refine ifT (inT (ys := ["true", "false"]) rfl (decide_eq_true h0)) ?_
    refine ⟨_, rfl, (Nat.le_of_ble_eq_true rfl), fun p hp => ⟨_, rfl, _, _, rfl, rfl, (Nat.le_of_ble_eq_true rfl), fun p2 hp2 => ?_⟩⟩
    refine g p2 _ (n + 1) _ ((s1 _).trans ((same_new hp _).trans (same_new hp2 _))) (by rw [upd_same] <;> rfl) (.lit ?_) hn1
    rw [same_new hp2 _ _ _ upd_same]
    have : t.1 = bstr (decide (t.1 = "true")) := by
      simp only [List.mem_cons, List.not_mem_nil, or_false] at h0
      rcases h0 with h0 | h0 <;> rw [h0] <;> decide +kernel
    rw [← this]
  rw [if_neg h0] at g
  refine ifF (inT (ys := ["true", "false"]) rfl (decide_eq_false h0)) ?_
  refine ⟨_, rfl, (Nat.le_of_ble_eq_true rfl), fun p2 hp2 => ?_⟩
  have s2 := fun o => (s1 (.tup [.str "true", .str "false"])).trans (same_new hp2 o)
  refine ⟨p2, _, rfl, .inr (sqt upd_same), rfl, by decide +kernel, _, rfl, ?_⟩
  by_cases h1 : t.1 ∈ (["all", "any"] : List Str)
  · rw [if_pos h1] at g
    refine ifT (inT (ys := ["all", "any"]) rfl (decide_eq_true h1)) ?_
    have hfr : Fin r := fin_tail (by rw [← etr]; exact hf) (fun e => by rw [e] at h1; exact absurd h1 (by decide +kernel))
    refine ⟨_, rfl, _, rfl, _, _, rfl, rfl, _, rfl, _, _, rfl, rfl, ?_⟩
    refine ⟨q, n + 1, dp + 1, ts, rfl, ht.same (s2 _), hz, by rw [hn1]; exact hfr, by omega, ?_⟩
    rw [hn1]
    cases e2 : rdG (rdPt m) r with
    | error c =>
      rw [e2] at g
      exact Bad.same g (s2 _)
    | ok x =>
      obtain ⟨ps, l2⟩ := x
      rw [e2] at g
      have hps := rdG_ok (rdPt_ok m) e2
      intro b tt vs n2 H1 s3 eb et hin hn2
      refine ⟨b, _, rfl, sqt eb, rfl, _, _, rfl, _, _, rfl, rfl, ?_⟩
      refine ⟨_, rfl, _, rfl, (Nat.le_of_ble_eq_true rfl), fun p3 hp3 => ⟨_, rfl, (Nat.le_of_ble_eq_true rfl), fun p4 hp4 => ?_⟩⟩
      have s5 := fun o' => (same_new hp3 (.tup [.str t.1, .ref tt])).trans (same_new hp4 o')
      exact g p4 (.ref p3) n2 _ ((s2 _).trans (s3.trans (s5 _))) (by rw [upd_same]) ((kids_of (hin.mono (Tp.same (s5 _))) hps.2).ok (same_new hp4 _ _ _ upd_same) (s5 _ _ _ et)) hn2
  rw [if_neg h1] at g
  refine ifF (inT (ys := ["all", "any"]) rfl (decide_eq_false h1)) ?_
  cases el : rows_CONDITION_PARTS.lookup t.1 with
  | none =>
    rw [el] at g
    have hns := kd_none D.D_CONDITION_PARTS D.y_CONDITION_PARTS (no_rows el)
    refine ⟨_, rfl, _, _, rfl, rfl, hns, _, rfl, ?_⟩
    refine ifT rfl ?_
    exact ⟨_, rfl, (Nat.le_of_ble_eq_true rfl), bad_go (Bad.same g (s2 _))⟩
  | some ks =>
    rw [el] at g
    dsimp only at g
    obtain ⟨tk, hns, hkt⟩ := D.q_CONDITION_PARTS _ _ (mem_rows el)
    obtain ⟨k1, k2, k3, k4⟩ := row_c el
    refine ⟨_, rfl, _, _, rfl, rfl, hns, _, rfl, ?_⟩
    refine ifF rfl ?_
    have hfr : Fin r := fin_tail (by rw [← etr]; exact hf) (row_casesC el).1
    refine ⟨_, rfl, _, rfl, _, _, rfl, rfl, _, rfl, _, _, _, rfl, rfl, kdct' D.D_CONDITION_PARTS hns, _, rfl, _, _, rfl, rfl, ?_⟩
    refine ⟨q, tk, n + 1, dp + 1, ts, ks, rfl, ht.same (s2 _), hz, by rw [hn1]; exact hfr, by omega, hkt, k1, k2, k3, ?_⟩
    rw [hn1]
    cases e2 : rdPs (rdPt m) ks "(" r with
    | error c => rw [e2] at g; exact Bad.same g (s2 _)
    | ok x =>
      obtain ⟨ps, l2⟩ := x
      rw [e2] at g
      have hps := rdPs_ok (rdPt_ok m) (by decide +kernel) e2
      intro b tt vs n2 H1 s3 eb et hin hn2
      refine ⟨b, _, rfl, sqt eb, rfl, _, _, rfl, _, _, rfl, rfl, ?_⟩
      have hsh := k4 ps hps.2
      have hvl : vs ≠ [] ∧ vs.length ≤ 1000 := by
        have h1 := hin.1
        rcases hsh with ⟨x, rfl⟩ | ⟨x, n, rfl⟩ | ⟨x, y, rfl⟩ | ⟨_, x, y, z, rfl⟩ <;> exact ⟨(fun e => by rw [e] at h1; cases h1), by rw [h1]; exact Nat.le_of_ble_eq_true rfl⟩
      refine ⟨_, rfl, (Nat.le_of_ble_eq_true rfl), fun p3 hp3 => ⟨_, rfl, p3, tt, _, _, rfl, rfl, sqt upd_same, sqt (same_new hp3 _ _ _ et), ?_, (fun e => by cases e), (fun _ e => absurd e hvl.1), fun _ _ p4 hp4 => ⟨_, rfl, (Nat.le_of_ble_eq_true rfl), fun p5 hp5 => ?_⟩⟩⟩
      · rw [List.length_singleton]
        exact big (by omega)
      have s4 := (same_new hp3 (.tup [.str t.1])).trans ((same_new hp4 (.tup ([.str t.1] ++ vs))).trans (same_new hp5 (.tup [.ref p4, .int ((n2 : Nat) : Int)])))
      exact g p5 (.ref p4) n2 _ ((s2 _).trans (s3.trans s4)) (by rw [upd_same]) (mk_in hsh (same_new hp5 _ _ _ upd_same) (hin.mono (Tp.same s4))) hn2
/-! ### _read_part -/
theorem rx_part_of (T : Txt K mg) (EX : Exs K mg) {k m : Nat} (hk : 3 ≤ k)
    (G_read_expression : FnOk P w K mg base (L2N.CX P w) k T.a_read_expression T.d_read_expression P_read_expression (fun vs H Q E => ∃ m', m = m' + 1 ∧ spEX EX.c_BadText m' vs H Q E))
    (G_read_condition : FnOk P w K mg base (L2N.CX P w) k T.a_read_condition T.d_read_condition P_read_condition (fun vs H Q E => ∃ m', m = m' + 1 ∧ spCX EX.c_BadText m' vs H Q E)) :
    FnOk P w K mg base (L2N.CX P w) (k + 1) T.a_read_part T.d_read_part P_read_part (spPartX EX.c_BadText m) := by
  have GI_BadText := init_ok (P := P) (w := w) (base := base) EX
  have G_read_divisor := rx_read_divisor (P := P) (w := w) (base := base) T EX
  refine okN T.F_read_part sc_read_part (fun vs H Q E h => ?_) (fun cdv A outer s H vs Q E hr h => ?_)
  · obtain ⟨q, n, dp, kd, ts, rfl, _⟩ := h
    rfl
  obtain ⟨q, n, dp, kd, ts, rfl, ht, hz, hf, hkd, hdp, g⟩ := h
  refine ⟨_, (pss_cons (ps_if (pt_cmpR op_eq (pv 2) pe_str (nomark _))
    (pss_one (ps_ret (pe_callS G_read_divisor (hr.mono (by omega)) (by rfl) T.m_read_divisor T.F_read_divisor.kp T.b_read_divisor (fun σ => L2N.passAt (L2N.takes_of rfl rfl rfl rfl) σ) (pa_cons (pv 0) (pa_cons (pv 1) pa_nil)))))
    pss_nil)
    (pss_cons (ps_if (pt_cmpR op_gt (pv 3) (pe_glob rfl T.g_MOST_DEPTH T.r_MOST_DEPTH) (nomark _))
    (pss_one (L2N.ps_raise rfl (L2N.takes_of rfl rfl rfl rfl) (mk_oexN EX.oe EX.iI EX.tI GI_BadText (hr.mono (by omega)) EX.bI pass0 (by rfl) EX.g_BadText (pa_cons pe_int (pa_cons (pe_ix ix_tup (pe_ix ix_list (pv 0) (pv 1) (fun _ _ => rfl)) pe_int (fun _ _ => rfl)) pa_nil)))))
    pss_nil)
    (pss_cons (ps_if (pt_cmpR op_eq (pv 2) pe_str (nomark _))
    (pss_one (ps_ret (pe_callS G_read_expression (hr.mono (by omega)) (by rfl) T.m_read_expression T.F_read_expression.kp T.b_read_expression (fun σ => L2N.passAt (L2N.takes_of rfl rfl rfl rfl) σ) (pa_cons (pv 0) (pa_cons (pv 1) (pa_cons (pv 3) pa_nil))))))
    pss_nil)
    (pss_one (ps_ret (pe_callS G_read_condition (hr.mono (by omega)) (by rfl) T.m_read_condition T.F_read_condition.kp T.b_read_condition (fun σ => L2N.passAt (L2N.takes_of rfl rfl rfl rfl) σ) (pa_cons (pv 0) (pa_cons (pv 1) (pa_cons (pv 3) pa_nil))))))))), ?_⟩
  obtain ⟨um, gm, rm⟩ : ∃ u, mg "MOST_DEPTH" = some u ∧ L2.RelV (.int 12) u := ⟨_, T.g_MOST_DEPTH, T.r_MOST_DEPTH⟩
  refine ⟨_, rfl, rfl, _, rfl, ?_⟩
  rw [strE]
  by_cases h0 : kd = "divisor"
  · refine ifT (decide_eq_true h0) ?_
    refine ⟨_, rfl, _, rfl, q, n, ts, rfl, ht, hz, hf, ?_⟩
    have e : rdPt m kd (ts.drop n) = rdDv (ts.drop n) := by
      cases m <;> unfold rdPt <;> rw [if_pos h0]
    rw [e] at g
    exact g
  refine ifF (decide_eq_false h0) ?_
  refine ⟨_, rfl, _, _, rfl, rfl, _, rfl, ?_⟩
  cases m with
  | zero =>
    refine ifT (decide_eq_true (by omega)) ?_
    obtain ⟨t, r, etr⟩ := fin_cons hf
    obtain ⟨xs1, a, eq, hat, ha⟩ := ht.tok etr
    rw [rdPt, if_neg h0, etr] at g
    refine ⟨_, rfl, _, rfl, q, _, _, _, rfl, rfl, sqd eq, hat, a, _, 1, _, rfl, rfl, sqt ha, atI1, (Nat.le_of_ble_eq_true rfl), bad_go g⟩
  | succ m =>
    refine ifF (decide_eq_false (by omega)) ?_
    rw [rdPt, if_neg h0] at g
    refine ⟨_, rfl, rfl, _, rfl, ?_⟩
    rw [strE]
    by_cases h1 : kd = "expression"
    · rw [if_pos h1] at g
      refine ifT (decide_eq_true h1) ?_
      exact ⟨_, rfl, _, rfl, _, rfl, m, rfl, q, n, dp, ts, rfl, ht, hz, hf, by omega, g⟩
    · rw [if_neg h1] at g
      refine ifF (decide_eq_false h1) ?_
      exact ⟨_, rfl, _, rfl, _, rfl, m, rfl, q, n, dp, ts, rfl, ht, hz, hf, by omega, g⟩
theorem never_ok {k : Nat} {fa : Addr} {fd : FuncData} {ps : List Str} {sp : Sp} {CX : CXT} (no : ∀ vs H Q E, ¬ sp vs H Q E) : FnOk P w K mg base CX k fa fd ps sp :=
  ⟨fun vs H Q E h => absurd h (no vs H Q E), fun A outer s H args us vs Q E _ _ _ _ h => absurd h (no vs H Q E)⟩
theorem fn_imp {k : Nat} {fa : Addr} {fd : FuncData} {ps : List Str} {sp sp' : Sp} {CX : CXT} (F : FnOk P w K mg base CX k fa fd ps sp) (h : ∀ vs H Q E, sp' vs H Q E → sp vs H Q E) : FnOk P w K mg base CX k fa fd ps sp' :=
  ⟨fun vs H Q E g => F.len vs H Q E (h vs H Q E g), fun A outer s H args us vs Q E hr h0 hb hv g => F.run A outer s H args us vs Q E hr h0 hb hv (h vs H Q E g)⟩
theorem rx_read_part (T : Txt K mg) (D : Dic K w mg) (EX : Exs K mg) : ∀ m : Nat, FnOk P w K mg base (L2N.CX P w) (3 * m + 4) T.a_read_part T.d_read_part P_read_part (spPartX EX.c_BadText m)
  | 0 => rx_part_of T EX (Nat.le_refl 3) (never_ok fun _ _ _ _ ⟨m, e, _⟩ => by omega) (never_ok fun _ _ _ _ ⟨m, e, _⟩ => by omega)
  | m + 1 => by
    have g := rx_read_part T D EX m
    have g1 := rx_read_parts T EX (by omega) g
    have g2 := rx_read_conditions T EX (by omega) g
    have g3 := rx_read_expression T D EX (by omega) g1
    have g4 := rx_read_condition T D EX (by omega) g1 g2
    exact rx_part_of T EX (k := 3 * m + 6) (by omega) (fn_imp g3 fun vs H Q E h => by
      obtain ⟨m', e, h⟩ := h
      obtain rfl : m = m' := by omega
      exact h) (fn_imp g4 fun vs H Q E h => by
      obtain ⟨m', e, h⟩ := h
      obtain rfl : m = m' := by omega
      exact h)
/-! ### read_whole, read_expression, read_condition -/
def ResW (C : Addr) (H : Hp) (Q : VK) (E : XK) : Except Nat Pt → Prop
  | .error c => BT C H E c
  | .ok p => ∀ v H', Same H H' → PtIn H' p v → Q v H'
def endT (z : Str) (ts : List Tok) : List Tok := ts ++ [(("" : Str), z.length + 1)]
def spWholeX (C : Addr) : Sp := fun vs H Q E => ∃ (z kd : Str) (ts : List Tok), vs = [.str z, .str kd] ∧ z.length ≤ 9000000 ∧ Kd3 kd ∧ Toks ((tl z).drop (rn sp (tl z))) (rn sp (tl z)) ts ∧ ResW C H Q E (rdW kd (endT z ts))
theorem toks_bound {l : List Nat} {n : Nat} {ts : List Tok} (h : Toks l n ts) : ts.length ≤ l.length ∧ ∀ t ∈ ts, t.1.length ≤ l.length := by
  induction h with
  | nil n => exact ⟨Nat.le_refl _, fun t h => nomatch h⟩
  | cons h0 h ih =>
    rename_i l n ts
    obtain ⟨p1, p2⟩ := pc_pos h0
    have e : ((l.drop (pc l)).drop (rn sp (l.drop (pc l)))).length + 1 ≤ l.length := by
      rw [List.length_drop, List.length_drop]
      omega
    refine ⟨by rw [List.length_cons]; omega, fun t ht => ?_⟩
    rcases List.mem_cons.mp ht with z | z
    · rw [z]
      show (⟨(l.take (pc l)).toArray⟩ : Str).length ≤ _
      rw [← tl_len, tl_mk, List.length_take]
      omega
    · have := ih.2 t z
      omega
theorem rx_read_whole (T : Txt K mg) (D : Dic K w mg) (EX : Exs K mg) : FnOk P w K mg base (L2N.CX P w) 41 T.aread_whole T.dread_whole Pread_whole (spWholeX EX.c_BadText) := by
  have Gtokens_of := ok_tokens_of (P := P) (w := w) (base := base) T
  have G_pass_token := rx_pass_token (P := P) (w := w) (base := base) T EX
  have G_read_part := rx_read_part (P := P) (base := base) T D EX 12
  refine okN T.Fread_whole scread_whole (fun vs H Q E h => ?_) (fun cdv A outer s H vs Q E hr h => ?_)
  · obtain ⟨z, kd, ts, rfl, _⟩ := h
    rfl
  obtain ⟨z, kd, ts, rfl, hz, hkd, hT, g⟩ := h
  refine ⟨_, (pss_cons (ps_set (i := 2) scread_whole.nd rfl (Or.inl rfl) (pe_call Gtokens_of (hr.mono (by omega)) (by rfl) T.mtokens_of T.Ftokens_of.kp T.btokens_of .nil pass0 (pa_cons (pv 0) pa_nil)))
    (pss_cons (ps_asg (pe_callS G_read_part (hr.mono (by omega)) (by rfl) T.m_read_part T.F_read_part.kp T.b_read_part (fun σ => L2N.passAt (L2N.takes_of rfl rfl rfl rfl) σ) (pa_cons (pv 2) (pa_cons pe_int (pa_cons (pv 1) (pa_cons pe_int pa_nil))))) (pg_tup rfl (pgs_cons (pg_name (i := 3) scread_whole.nd rfl (Or.inl rfl)) (pgs_cons (pg_name (i := 4) scread_whole.nd rfl (Or.inl rfl)) pgs_nil))))
    (pss_cons (ps_expr (pe_callS G_pass_token (hr.mono (by omega)) (by rfl) T.m_pass_token T.F_pass_token.kp T.b_pass_token (fun σ => L2N.passAt (L2N.takes_of rfl rfl rfl rfl) σ) (pa_cons (pv 2) (pa_cons (pv 4) (pa_cons pe_str pa_nil)))))
    (pss_one (ps_ret (pv 3)))))), ?_⟩
  have hb := toks_bound hT
  have hdl : ((tl z).drop (rn sp (tl z))).length ≤ 9000000 := by
    rw [List.length_drop, tl_len]; omega
  have hTz : Tz (endT z ts) := by
    refine ⟨by unfold endT; rw [List.length_append, List.length_singleton]; omega, fun t ht => ?_⟩
    rcases List.mem_append.mp ht with h | h
    · have := hb.2 t h
      omega
    · rw [List.mem_singleton.mp h]
      show ("" : Str).length ≤ _
      decide +kernel
  refine ⟨_, rfl, z, ts, rfl, by omega, hT, fun q H1 s1 hq ht => ?_⟩
  have ht : TokIn H1 q (endT z ts) := ht
  have hfin : Fin (endT z ts) := ⟨ts, _, rfl⟩
  refine ⟨_, rfl, _, rfl, q, 0, 1, kd, endT z ts, rfl, ht, hTz, hfin, hkd, rfl, ?_⟩
  rw [List.drop_zero]
  unfold rdW at g
  cases e : rdPt 12 kd (endT z ts) with
  | error c =>
    rw [e] at g
    exact Bad.same g s1
  | ok x =>
    obtain ⟨p, r⟩ := x
    rw [e] at g
    dsimp only at g
    intro a v n2 H2 s2 ea hv hn2
    refine ⟨a, _, rfl, sqt ea, rfl, _, _, rfl, _, _, rfl, rfl, ?_⟩
    have hfr : Fin r := (rdPt_ok 12 _ _ _ _ e).1.fin hfin
    obtain ⟨t, r2, er⟩ := fin_cons hfr
    rw [er, passT] at g
    refine ⟨_, rfl, _, rfl, q, n2, "", endT z ts, t, r2, rfl, ht.same s2, by rw [hn2, er], fun ew => ?_, fun ew => ?_⟩
    · rw [if_pos ew] at g
      exact ⟨_, rfl, g v H2 (s1.trans s2) hv⟩
    · rw [if_neg ew] at g
      exact Bad.same g (s1.trans s2)
def spReadX (C : Addr) (kd : Str) : Sp := fun vs H Q E => ∃ (z : Str) (ts : List Tok), vs = [.str z] ∧ z.length ≤ 9000000 ∧ Toks ((tl z).drop (rn sp (tl z))) (rn sp (tl z)) ts ∧ ResW C H Q E (rdW kd (endT z ts))
end
end NL

namespace NL
open PySem PySem.Spec PyProof.Rows L2 HotX
section
variable {P : Program} {w : World} {K : PySem.W.Frag} {mg : Str → Option Value} {base : Heap}
/-! ### _read_conditions -/
theorem rx_read_e (T : Txt K mg) (D : Dic K w mg) (EX : Exs K mg) : FnOk P w K mg base (L2N.CX P w) 42 T.aread_expression T.dread_expression Pread_expression (spReadX EX.c_BadText "expression") := by
  have Gread_whole := rx_read_whole (P := P) (base := base) T D EX
  refine okN T.Fread_expression scread_expression (fun vs H Q E h => ?_) (fun cdv A outer s H vs Q E hr h => ?_)
  · obtain ⟨z, ts, rfl, _⟩ := h
    rfl
  obtain ⟨z, ts, rfl, hz, hT, g⟩ := h
  exact ⟨_, (pss_one (ps_ret (pe_callS Gread_whole (hr.mono (by omega)) (by rfl) T.mread_whole T.Fread_whole.kp T.bread_whole (fun σ => L2N.passAt (L2N.takes_of rfl rfl rfl rfl) σ) (pa_cons (pv 0) (pa_cons pe_str pa_nil))))), _, rfl, z, "expression", ts, rfl, hz, .inr (.inl rfl), hT, by
    revert g
    cases rdW "expression" (endT z ts) with
    | error c => exact fun g => g
    | ok p => exact fun g => g⟩
theorem rx_read_c (T : Txt K mg) (D : Dic K w mg) (EX : Exs K mg) : FnOk P w K mg base (L2N.CX P w) 42 T.aread_condition T.dread_condition Pread_condition (spReadX EX.c_BadText "condition") := by
  have Gread_whole := rx_read_whole (P := P) (base := base) T D EX
  refine okN T.Fread_condition scread_condition (fun vs H Q E h => ?_) (fun cdv A outer s H vs Q E hr h => ?_)
  · obtain ⟨z, ts, rfl, _⟩ := h
    rfl
  obtain ⟨z, ts, rfl, hz, hT, g⟩ := h
  exact ⟨_, (pss_one (ps_ret (pe_callS Gread_whole (hr.mono (by omega)) (by rfl) T.mread_whole T.Fread_whole.kp T.bread_whole (fun σ => L2N.passAt (L2N.takes_of rfl rfl rfl rfl) σ) (pa_cons (pv 0) (pa_cons pe_str pa_nil))))), _, rfl, z, "condition", ts, rfl, hz, .inr (.inr rfl), hT, by
    revert g
    cases rdW "condition" (endT z ts) with
    | error c => exact fun g => g
    | ok p => exact fun g => g⟩
end
end NL

namespace NL
open PySem PySem.Spec PyProof.Rows L2 L2H HotX
theorem kit_ref {K : PySem.W.Frag} {D C : Addr} {b : Bool} (hne : b = false → D ≠ C) (i : PySem.W.isClsIn K C = true) (t : PySem.W.typeIn K (.ref C) = some (.type "type")) (s : PySem.W.subIn K (.ref D) (.ref C) = some b) : PySem.W.kitOne K (.ref D) (.ref C) = some b := by
  unfold PySem.W.kitOne
  by_cases e : D = C
  · subst e
    rw [if_pos (by simp)]
    cases b with
    | true => rfl
    | false => exact absurd rfl (hne rfl)
  · rw [if_neg (by simpa using e)]
    show (if ((PySem.W.clsIn K C).isSome && PySem.W.typeIn K (.ref C) == some (.type "type")) = true then PySem.W.subIn K (.ref D) (.ref C) else none) = some b
    have i' : (PySem.W.clsIn K C).isSome = true := i
    rw [i', t, if_pos (by rfl), s]
theorem exm_ref' {K : PySem.W.Frag} {cls : Value} {C : Addr} {b : Bool} (h1 : PySem.W.subIn K (.ref C) (.type "BaseException") = some true) (i : PySem.W.isClsIn K C = true) (t : PySem.W.typeIn K (.ref C) = some (.type "type")) (s : PySem.W.subIn K cls (.ref C) = some b) : PySem.W.exmOne K cls (.ref C) = some b := by
  unfold PySem.W.exmOne
  rw [h1, if_pos (by rfl)]
  show (if ((PySem.W.clsIn K C).isSome && PySem.W.typeIn K (.ref C) == some (.type "type")) = true then PySem.W.subIn K cls (.ref C) else none) = some b
  have i' : (PySem.W.clsIn K C).isSome = true := i
  rw [i', t, if_pos (by rfl), s]
theorem kit_val {K : PySem.W.Frag} {D : Addr} (s : PySem.W.subIn K (.ref D) (.type "ValueError") = some true) : PySem.W.kitOne K (.ref D) (.type "ValueError") = some true := by
  unfold PySem.W.kitOne
  rw [if_neg (by simp)]
  show (if PySem.W.kitMeta "ValueError" = true then PySem.W.subIn K (.ref D) (.type "ValueError") else none) = some true
  rw [if_pos (by decide +kernel), s]
theorem self_ne {K : PySem.W.Frag} {D C : Addr} (a : PySem.W.subIn K (.ref D) (.ref D) = some true) (b : PySem.W.subIn K (.ref D) (.ref C) = some false) : D ≠ C := fun e => by
  subst e; rw [a] at b; cases b
theorem takesN0 {X : Cx} : L2N.Takes X (fun _ _ _ _ => False) := fun _ _ x => by
  obtain ⟨_, _, _, _, _, _, _, _, _, _, _, _, _, _, _, _, z⟩ := x
  exact z.elim
theorem passE0 {X : Cx} {E : L2.St → XK} : ∀ σ, PassesAt CX0 X σ (E σ) := fun _ _ _ _ _ _ _ h => h.elim
theorem roomH_mark {j k : Nat} {A : Around} {v : Option Value} (r : Room k A) (h : j ≤ k) : RoomH j (A.mark v) := by
  have q : RoomH j A := (roomH_of r).mono h
  exact ⟨q.dp, q.un⟩
section
variable {P : Program} {w : World} {K : PySem.W.Frag} {mg : Str → Option Value} {base : Heap}
/-! ### _law_error_name -/
def spErrName (D : Addr) (z : Str) : SpE := fun a cls d vs H Q _ => ∃ (dd : Addr) (fs : List (Str × V)), vs = [.ref a] ∧ cls = .ref D ∧ d = some dd ∧ H dd = some (.xd fs) ∧ ∀ H', Same H H' → Q (.str z) H'
theorem ok_law_error_name (T : Txt K mg) (EX : Exs K mg) : FnE P w K mg base CX0 1 T.a_law_error_name T.d_law_error_name P_law_error_name (spErrName EX.c_BadText "BadText") := by
  refine okE T.F_law_error_name sc_law_error_name (fun a cls d vs H Q E h => ?_) (fun cdv A outer s H vs Q E p cls d hot hz0 hr h => ?_)
  · obtain ⟨dd, fs, rfl, _⟩ := h
    rfl
  obtain ⟨dd, fs, rfl, rfl, rfl, edd, q⟩ := h
  have hf : ∃ vs, p.2.data = .fields vs := by
    obtain ⟨_, vs, e, _⟩ := hot
    exact ⟨vs, e⟩
  have hz : Zc (.ref EX.c_BadText) (some dd) p.2 := hz0
  have hCl : PySem.W.isClsIn (cxH CX0 P w K mg base N_law_error_name "_law_error_name" (defScope s_law_error_name) T.a_law_error_name cdv A outer s H E p).K EX.c_BadText = true := EX.i_BadText
  have xx : ∀ {H' : Hp}, Same H H' → ∃ fs, H' dd = some (.xd fs) := fun s => ⟨fs, s _ _ edd⟩
  have hEC : ExcC (cxH CX0 P w K mg base N_law_error_name "_law_error_name" (defScope s_law_error_name) T.a_law_error_name cdv A outer s H E p).K EX.c_BadText := EX.ec
  have hpin : p ∈ (cxH CX0 P w K mg base N_law_error_name "_law_error_name" (defScope s_law_error_name) T.a_law_error_name cdv A outer s H E p).pn := List.mem_cons_self
  have hHC : HotC (cxH CX0 P w K mg base N_law_error_name "_law_error_name" (defScope s_law_error_name) T.a_law_error_name cdv A outer s H E p) := ⟨p, hot, hpin⟩
  have no : ∀ {C : Addr}, PySem.W.subIn K (.ref EX.c_BadText) (.ref C) = some false → (false = false → EX.c_BadText ≠ C) := fun h _ => self_ne EX.s_BadText h
  refine ⟨_, (pss_cons (ps_if (pt_not (pt_val (pe_callB (call_isD hEC hCl hpin hz hf) (by rfl) T.z_isinstance (by decide +kernel) (pa_cons (pv 0) (pa_cons (pe_bltn (v := .ty "ValueError") (u := .type "ValueError") (by rfl) T.z_ValueError (by decide +kernel) rfl) pa_nil)))))
    (pss_one (ps_ret pe_str))
    pss_nil)
    (pss_cons (ps_set (i := 1) sc_law_error_name.nd rfl (Or.inr rfl) (pe_lst (pa_cons (pe_callB (call_isD hEC hCl hpin hz hf) (by rfl) T.z_isinstance (by decide +kernel) (pa_cons (pv 0) (pa_cons (pe_glob (v := .ref EX.c_InvalidExpression) rfl EX.g_InvalidExpression rfl) pa_nil))) (pa_cons (pe_callB (call_isD hEC hCl hpin hz hf) (by rfl) T.z_isinstance (by decide +kernel) (pa_cons (pv 0) (pa_cons (pe_glob (v := .ref EX.c_InvalidPlant) rfl EX.g_InvalidPlant rfl) pa_nil))) (pa_cons (pe_callB (call_isD hEC hCl hpin hz hf) (by rfl) T.z_isinstance (by decide +kernel) (pa_cons (pv 0) (pa_cons (pe_glob (v := .ref EX.c_InvalidArena) rfl EX.g_InvalidArena rfl) pa_nil))) pa_nil)))))
    (pss_cons (ps_set (i := 1) sc_law_error_name.nd rfl (Or.inr rfl) (pe_op op_cat (pv 1) (pe_lst (pa_cons (pe_callB (call_isD hEC hCl hpin hz hf) (by rfl) T.z_isinstance (by decide +kernel) (pa_cons (pv 0) (pa_cons (pe_glob (v := .ref EX.c_InvalidGoal) rfl EX.g_InvalidGoal rfl) pa_nil))) (pa_cons (pe_callB (call_isD hEC hCl hpin hz hf) (by rfl) T.z_isinstance (by decide +kernel) (pa_cons (pv 0) (pa_cons (pe_glob (v := .ref EX.c_BadText) rfl EX.g_BadText rfl) pa_nil))) (pa_cons (pe_callB (call_isD hEC hCl hpin hz hf) (by rfl) T.z_isinstance (by decide +kernel) (pa_cons (pv 0) (pa_cons (pe_glob (v := .ref EX.c_NoPosition) rfl EX.g_NoPosition rfl) pa_nil))) (pa_cons (pe_callB (call_isD hEC hCl hpin hz hf) (by rfl) T.z_isinstance (by decide +kernel) (pa_cons (pv 0) (pa_cons (pe_glob (v := .ref EX.c_Held) rfl EX.g_Held rfl) pa_nil))) pa_nil)))))))
    (pss_cons (ps_set (i := 1) sc_law_error_name.nd rfl (Or.inr rfl) (pe_op op_cat (pv 1) (pe_lst (pa_cons (pe_callB (call_isD hEC hCl hpin hz hf) (by rfl) T.z_isinstance (by decide +kernel) (pa_cons (pv 0) (pa_cons (pe_glob (v := .ref EX.c_NotHeld) rfl EX.g_NotHeld rfl) pa_nil))) (pa_cons (pe_callB (call_isD hEC hCl hpin hz hf) (by rfl) T.z_isinstance (by decide +kernel) (pa_cons (pv 0) (pa_cons (pe_glob (v := .ref EX.c_BadReply) rfl EX.g_BadReply rfl) pa_nil))) (pa_cons (pe_callB (call_isD hEC hCl hpin hz hf) (by rfl) T.z_isinstance (by decide +kernel) (pa_cons (pv 0) (pa_cons (pe_glob (v := .ref EX.c_Lost) rfl EX.g_Lost rfl) pa_nil))) pa_nil))))))
    (pss_cons (ps_set (i := 2) sc_law_error_name.nd rfl (Or.inr rfl) (pe_lst (pa_cons pe_str (pa_cons pe_str (pa_cons pe_str (pa_cons pe_str (pa_cons pe_str (pa_cons pe_str (pa_cons pe_str pa_nil)))))))))
    (pss_cons (ps_set (i := 2) sc_law_error_name.nd rfl (Or.inr rfl) (pe_op op_cat (pv 2) (pe_lst (pa_cons pe_str (pa_cons pe_str (pa_cons pe_str pa_nil))))))
    (pss_cons (ps_setLcG (i := 3) (own := [("k", 4)]) (g := (gName 4)) (tt := _) hHC sc_law_error_name.nd rfl rfl (sw_true rfl rfl rfl (by decide +kernel)) (pi_range1G (by rfl) T.z_range (pa_cons pe_int pa_nil)) (blkOk_by (N := N_law_error_name) (sc := defScope s_law_error_name) (by decide +kernel)) (fun _ _ _ _ _ => (pg_name (i := 4) sc_law_error_name.nd rfl (Or.inl rfl))) (fun _ _ _ _ _ => (pts_one (pt_val (pe_ix (ix_listK (K := K) rfl) (pv 1) (pv 4) (fun _ _ => rfl))))) (fun _ _ _ _ _ => (pe_ix (ix_listK (K := K) rfl) (pv 2) (pv 4) (fun _ _ => rfl))))
    (pss_one (ps_ret (pe_join pe_str (pe_op op_cat (pv 3) (pe_op op_rep (pe_lst (pa_cons pe_str pa_nil)) (pe_callTy call_int1 (by rfl) T.z_int (by decide +kernel) (pa_cons (pe_cmpR op_eq (pe_callB call_len_seq (by rfl) T.z_len PySem.boot_len (pa_cons (pv 3) pa_nil)) pe_int (nomark _)) pa_nil)))))))))))))), ?_⟩
  refine ⟨_, rfl, xx (Same.refl H), .ty "ValueError", .type "ValueError", true, rfl, (fun u r => r), kit_val EX.sV, true, rfl, iteF ?_⟩
  refine ⟨_, rfl, xx (Same.refl H), _, .ref EX.c_InvalidExpression, false, rfl, (fun u r => r), kit_ref (no EX.s_InvalidExpression) EX.i_InvalidExpression EX.t_InvalidExpression EX.s_InvalidExpression, ?_⟩
  refine ⟨_, rfl, xx (Same.refl H), _, .ref EX.c_InvalidPlant, false, rfl, (fun u r => r), kit_ref (no EX.s_InvalidPlant) EX.i_InvalidPlant EX.t_InvalidPlant EX.s_InvalidPlant, ?_⟩
  refine ⟨_, rfl, xx (Same.refl H), _, .ref EX.c_InvalidArena, false, rfl, (fun u r => r), kit_ref (no EX.s_InvalidArena) EX.i_InvalidArena EX.t_InvalidArena EX.s_InvalidArena, ?_⟩
  refine ⟨(Nat.le_of_ble_eq_true rfl), fun p1 h1 => ?_⟩
  have s1 := fun o => same_new h1 o
  refine ⟨_, rfl, _, rfl, xx (s1 _), _, .ref EX.c_InvalidGoal, false, rfl, (fun u r => r), kit_ref (no EX.s_InvalidGoal) EX.i_InvalidGoal EX.t_InvalidGoal EX.s_InvalidGoal, ?_⟩
  refine ⟨_, rfl, xx (s1 _), _, .ref EX.c_BadText, true, rfl, (fun u r => r), kit_ref (fun h => nomatch h) EX.i_BadText EX.t_BadText EX.s_BadText, ?_⟩
  refine ⟨_, rfl, xx (s1 _), _, .ref EX.c_NoPosition, false, rfl, (fun u r => r), kit_ref (no EX.s_NoPosition) EX.i_NoPosition EX.t_NoPosition EX.s_NoPosition, ?_⟩
  refine ⟨_, rfl, xx (s1 _), _, .ref EX.c_Held, false, rfl, (fun u r => r), kit_ref (no EX.s_Held) EX.i_Held EX.t_Held EX.s_Held, ?_⟩
  refine ⟨(Nat.le_of_ble_eq_true rfl), fun p2 h2 => ?_⟩
  have s2 := fun o => (s1 _).trans (same_new h2 o)
  refine ⟨p1, p2, _, _, rfl, rfl, same_new h2 _ _ _ upd_same, upd_same, (Nat.le_of_ble_eq_true rfl), fun p3 h3 => ?_⟩
  have s3 := fun o => (s2 _).trans (same_new h3 o)
  refine ⟨_, rfl, _, rfl, xx (s3 _), _, .ref EX.c_NotHeld, false, rfl, (fun u r => r), kit_ref (no EX.s_NotHeld) EX.i_NotHeld EX.t_NotHeld EX.s_NotHeld, ?_⟩
  refine ⟨_, rfl, xx (s3 _), _, .ref EX.c_BadReply, false, rfl, (fun u r => r), kit_ref (no EX.s_BadReply) EX.i_BadReply EX.t_BadReply EX.s_BadReply, ?_⟩
  refine ⟨_, rfl, xx (s3 _), _, .ref EX.c_Lost, false, rfl, (fun u r => r), kit_ref (no EX.s_Lost) EX.i_Lost EX.t_Lost EX.s_Lost, ?_⟩
  refine ⟨(Nat.le_of_ble_eq_true rfl), fun p4 h4 => ?_⟩
  have s4 := fun o => (s3 _).trans (same_new h4 o)
  refine ⟨p3, p4, _, _, rfl, rfl, same_new h4 _ _ _ upd_same, upd_same, (Nat.le_of_ble_eq_true rfl), fun pk hk => ?_⟩
  have s5 := fun o => (s4 _).trans (same_new hk o)
  refine ⟨(Nat.le_of_ble_eq_true rfl), fun p6 h6 => ?_⟩
  have s6 := fun o => (s5 _).trans (same_new h6 o)
  refine ⟨_, rfl, (Nat.le_of_ble_eq_true rfl), fun p7 h7 => ?_⟩
  have s7 := fun o => (s6 _).trans (same_new h7 o)
  refine ⟨p6, p7, _, _, rfl, rfl, same_new h7 _ _ _ upd_same, upd_same, (Nat.le_of_ble_eq_true rfl), fun pn hn => ?_⟩
  have s8 := fun o => (s7 _).trans (same_new hn o)
  have ek0 := same_new hn (.lst ([V.str "InvalidExpression", .str "InvalidPlant", .str "InvalidArena", .str "InvalidGoal", .str "BadText", .str "NoPosition", .str "Held"] ++ [V.str "NotHeld", .str "BadReply", .str "Lost"])) pk (.lst [V.bl false, .bl false, .bl false, .bl false, .bl true, .bl false, .bl false, .bl false, .bl false, .bl false]) (same_new h7 _ _ _ (same_new h6 _ _ _ upd_same))
  have s08 := s8 (.lst ([V.str "InvalidExpression", .str "InvalidPlant", .str "InvalidArena", .str "InvalidGoal", .str "BadText", .str "NoPosition", .str "Held"] ++ [V.str "NotHeld", .str "BadReply", .str "Lost"]))
  refine ⟨10, rfl, by decide, by decide, fun D hD => ?_⟩
  generalize hH8 : upd _ pn (HO.lst ([V.str "InvalidExpression", .str "InvalidPlant", .str "InvalidArena", .str "InvalidGoal", .str "BadText", .str "NoPosition", .str "Held"] ++ [V.str "NotHeld", .str "BadReply", .str "Lost"])) = H8 at hD ek0 s08 ⊢
  have ek : ∀ H', Same H8 H' → H' pk = some (.lst [V.bl false, .bl false, .bl false, .bl false, .bl true, .bl false, .bl false, .bl false, .bl false, .bl false]) := fun H' h => h _ _ ek0
  have en : ∀ H', Same H8 H' → H' pn = some (.lst [V.str "InvalidExpression", .str "InvalidPlant", .str "InvalidArena", .str "InvalidGoal", .str "BadText", .str "NoPosition", .str "Held", .str "NotHeld", .str "BadReply", .str "Lost"]) := fun H' h => h _ _ (by rw [← hH8]; exact upd_same)
  refine lc_range (lo := 0) (n := 10) (fun (j : Nat) (H' : Hp) => Same H8 H' ∧ H' D = some (.lst (if j ≤ 4 then [] else [V.str "BadText"]))) ?_ ?_ ?_
  · exact ⟨same_new hD _, by rw [upd_same, if_pos (by decide)]⟩
  · rintro j H' hj ⟨s9, e9⟩
    refine ⟨rfl, ?_⟩
    have e0 : (0 : Int) + (j : Int) = (j : Int) := Int.zero_add _
    by_cases hj0 : j = 4
    · subst hj0
      refine ⟨_, rfl, _, rfl, pk, _, _, V.bl true, rfl, rfl, sqd (ek H' s9), by rw [e0]; exact atI_nat rfl, true, rfl, ?_⟩
      refine ifT rfl ?_
      refine ⟨_, rfl, _, rfl, pn, _, _, V.str "BadText", rfl, rfl, sqd (en H' s9), by rw [e0]; exact atI_nat rfl, ?_⟩
      rw [if_pos (by decide)] at e9
      refine ⟨_, e9, by decide, same_put s9 hD, ?_⟩
      rw [upd_same, if_neg (by decide)]
      rfl
    · have hb : ([V.bl false, .bl false, .bl false, .bl false, .bl true, .bl false, .bl false, .bl false, .bl false, .bl false] : List V)[j]? = some (V.bl false) := by
        match j, hj, hj0 with
        | 0, _, _ => rfl
        | 1, _, _ => rfl
        | 2, _, _ => rfl
        | 3, _, _ => rfl
        | 4, _, h => exact absurd rfl h
        | 5, _, _ => rfl
        | 6, _, _ => rfl
        | 7, _, _ => rfl
        | 8, _, _ => rfl
        | 9, _, _ => rfl
      refine ⟨_, rfl, _, rfl, pk, _, _, V.bl false, rfl, rfl, sqd (ek H' s9), by rw [e0]; exact atI_nat hb, false, rfl, ?_⟩
      refine ifF rfl ⟨s9, ?_⟩
      rw [e9]
      by_cases hj4 : j ≤ 4
      · rw [if_pos hj4, if_pos (by omega)]
      · rw [if_neg hj4, if_neg (by omega)]
  · rintro H' ⟨s9, e9⟩
    rw [if_neg (by decide)] at e9
    refine ⟨⟨_, rfl⟩, _, rfl, (Nat.le_of_ble_eq_true rfl), fun p10 h10 => ?_⟩
    have eD := fun o => same_new h10 o _ _ e9
    refine ⟨_, rfl, D, _, rfl, .inl (sqd (eD _)), rfl, .inr ⟨_, rfl, ?_⟩⟩
    refine ⟨p10, _, _, rfl, rfl, upd_same, by decide, by decide, by decide, fun p11 h11 => ?_⟩
    refine ⟨D, p11, _, _, rfl, rfl, same_new h11 _ _ _ (eD _), upd_same, by decide, fun p12 h12 => ?_⟩
    refine ⟨_, p12, ["BadText"], rfl, rfl, .inl (sqd upd_same), by decide +kernel, ?_⟩
    have e : Txt.join " " ["BadText"] = ("BadText" : Str) := by decide +kernel
    rw [e]
    exact q _ (s08.trans (s9.trans ((same_new h10 _).trans ((same_new h11 _).trans (same_new h12 _)))))
/-! ### _law_is_integer, where an error is handled -/
def spIsIntH : Sp := fun vs H Q _ => ∃ n : Int, vs = [.int n] ∧ Q (.bl true) H
theorem eh_law_is_integer (T : Txt K mg) : FnH P w K mg base CX0 1 T.a_law_is_integer T.d_law_is_integer P_law_is_integer spIsIntH := by
  refine okH T.F_law_is_integer sc_law_is_integer (fun vs H Q E h => ?_) (fun cdv A outer s H vs Q E p hot hr h => ?_)
  · obtain ⟨n, rfl, _⟩ := h
    rfl
  obtain ⟨n, rfl, q⟩ := h
  refine ⟨_, (pss_one (ps_ret (pe_and (pe_callB (call_isi) (by rfl) T.z_isinstance (by decide +kernel) (pa_cons (pv 0) (pa_cons (pe_bltn (v := .ty "int") (u := .type "int") (by rfl) T.z_int (by decide +kernel) rfl) pa_nil))) (pe_one (pe_not (pe_callB (call_isi) (by rfl) T.z_isinstance (by decide +kernel) (pa_cons (pv 0) (pa_cons (pe_bltn (v := .ty "bool") (u := .type "bool") (by rfl) T.z_bool (by decide +kernel) rfl) pa_nil)))))))), ?_⟩
  refine ⟨_, rfl, _, _, .type "int", .type "int", true, rfl, .ty "int", .base (.int _), kit_ty (by decide +kernel), true, rfl, ?_⟩
  exact iteT ⟨_, rfl, _, _, .type "int", .type "bool", false, rfl, .ty "bool", .base (.int _), kit_ty (by decide +kernel), false, rfl, q⟩
end
end NL

namespace NL
open PySem PySem.Spec PyProof.Rows L2 L2H
theorem zn_hot2 {A : Around} {a : Addr} {oe : Obj} {cls : Value} {d : Option Addr} (hz : L2N.Zn cls d oe) (hf : ∃ vs, oe.data = .fields vs) (h : A.handled = some (.ref a)) : L2H.Hot1 A (a, oe) := by
  obtain ⟨vs, hv⟩ := hf
  exact ⟨h, vs, hv, hz.2.2 vs hv⟩
section
variable {X : Cx} {CX : CXT} {k : Nat} {f : Addr} {fd : FuncData} {ps : List Str} {sp : SpE} {E : L2.St → XK} {x : Str} {q pos : Pos} {e : Expr} {es : List Expr} {t : TA}
theorem pe_callE2 {a : Addr} {oe : Obj} {cls : Value} {d : Option Addr} (F : FnE X.prog X.w X.K X.mg X.base CX k f fd ps sp) (hr : L2H.RoomH k X.A) (hot : L2H.Hot1 X.A (a, oe)) (hp : (a, oe) ∈ X.pn) (hz : Zc cls d oe) (hg : Gl X x) (hm : X.mg x = some (.ref f)) (hk : PySem.W.keepIn X.K (.ref f) = true) (hb : Binds X.K fd ps []) (hx : ∀ σ, PassesAt CX X σ (E σ))
    (ha : PA X (e :: es) t) (hdb : (x == ("__debug__" : Str)) = false := by decide) (he : starEach (e :: es) X.env = (false, eval e X.env) :: starEach es X.env := by rfl) (hpl : (backTo pos (starEach es X.env)).any (·.1) = false := by rfl) :
    PE X (.Call (.Name x q) (e :: es) [] pos) (tCallS (sp a cls d) E t) := pe_callE (p := (a, oe)) F hr hot hp hz hg hm hk hb hx ha hdb he hpl
end
def kdOf (b : Bool) : Str := if b then "condition" else "expression"
section
variable {P : Program} {w : World} {K : PySem.W.Frag} {mg : Str → Option Value} {base : Heap}
/-! ### _law_refused -/
def spRefused : Sp := fun vs H Q _ => ∃ (b : Bool) (z : Str) (c : Nat) (ts : List Tok), vs = [.bl b, .str z, .int (c : Int)] ∧ z.length ≤ 9000000 ∧ Toks ((tl z).drop (rn sp (tl z))) (rn sp (tl z)) ts ∧ rdW (kdOf b) (endT z ts) = .error c ∧ ∀ H', Same H H' → Q (.bl true) H'
theorem ok_law_refused (T : Txt K mg) (D : Dic K w mg) (EX : Exs K mg) : FnOk P w K mg base CX0 43 T.a_law_refused T.d_law_refused P_law_refused spRefused := by
  have Gread_expression := rx_read_e (P := P) (base := base) T D EX
  have Gread_condition := rx_read_c (P := P) (base := base) T D EX
  have G_law_error_name := ok_law_error_name (P := P) (w := w) (base := base) T EX
  have GH_law_is_integer := eh_law_is_integer (P := P) (w := w) (base := base) T
  refine T.F_law_refused.ok sc_law_refused (fun vs H Q E h => ?_) (fun cdv A outer s H vs Q E hr h => ?_)
  · obtain ⟨b, z, c, ts, rfl, _⟩ := h
    rfl
  obtain ⟨b, z, c, ts, rfl, hz, hT, hc, q⟩ := h
  refine ⟨_, (pss_cons (L2N.ps_try_as (X := (cxOf CX0 P w K mg base N_law_refused "_law_refused" (defScope s_law_refused) T.a_law_refused cdv A outer s H E).nox) (i := 3) rfl rfl sc_law_refused.nd rfl rfl ⟨rfl, by decide, .inl EX.g_ControlError⟩ takesN0 (fun W pn xe tk po => (pss_one (ps_if (pt_val (pv 0))
    (pss_one (ps_expr (pe_callS Gread_condition (hr.mono (by omega)) (by rfl) T.mread_condition T.Fread_condition.kp T.bread_condition (fun σ => L2N.passAt tk σ) (pa_cons (pv 1) pa_nil))))
    (pss_one (ps_expr (pe_callS Gread_expression (hr.mono (by omega)) (by rfl) T.mread_expression T.Fread_expression.kp T.bread_expression (fun σ => L2N.passAt tk σ) (pa_cons (pv 1) pa_nil))))))) (fun a oe cls d pn hz hf => by exact (pss_cons (ps_if (PW.pt (pw_or (pt_cmpR op_ne (by exact pe_callE2 (X := (cxOf CX0 P w K mg base N_law_refused "_law_refused" (defScope s_law_refused) T.a_law_refused cdv A outer s H E).nox.suite a ((a, oe) :: pn)) (a := a) (oe := oe) (cls := cls) (d := d) G_law_error_name (roomH_mark (j := 1) hr (by decide)) (by exact zn_hot2 hz hf rfl) (by exact List.mem_cons_self) hz.zc (by rfl) T.m_law_error_name T.F_law_error_name.kp T.b_law_error_name (E := fun _ _ _ _ => False) passE0 (pa_cons (pv 3) pa_nil)) pe_str (nomark _)) (pw_or (pt_not (pt_val (by exact pe_callH (X := (cxOf CX0 P w K mg base N_law_refused "_law_refused" (defScope s_law_refused) T.a_law_refused cdv A outer s H E).nox.suite a ((a, oe) :: pn)) GH_law_is_integer (roomH_mark (j := 1) hr (by decide)) ⟨(a, oe), zn_hot2 hz hf rfl, List.mem_cons_self⟩ (by rfl) T.m_law_is_integer T.F_law_is_integer.kp T.b_law_is_integer (E := fun _ _ _ _ => False) passE0 (pa_cons (pe_xf EX.xf EX.n_line hz.zc hf (pv 3)) pa_nil)))) (pw_or1 (pt_not (pt_val (by exact pe_callH (X := (cxOf CX0 P w K mg base N_law_refused "_law_refused" (defScope s_law_refused) T.a_law_refused cdv A outer s H E).nox.suite a ((a, oe) :: pn)) GH_law_is_integer (roomH_mark (j := 1) hr (by decide)) ⟨(a, oe), zn_hot2 hz hf rfl, List.mem_cons_self⟩ (by rfl) T.m_law_is_integer T.F_law_is_integer.kp T.b_law_is_integer (E := fun _ _ _ _ => False) passE0 (pa_cons (pe_xf EX.xf EX.n_column hz.zc hf (pv 3)) pa_nil))))))))
    (pss_one (ps_ret pe_bl))
    pss_nil)
    (pss_one (ps_ret (pe_and (pe_cmpR op_eq (pe_xf EX.xf EX.n_line hz.zc hf (pv 3)) pe_int (nomark _)) (pe_one (pe_cmpR op_eq (pe_xf EX.xf EX.n_column hz.zc hf (pv 3)) (pv 2) (nomark _)))))))))
    (pss_one (ps_ret pe_bl))), ?_⟩
  have ex := exm_ref' (cls := .ref EX.c_BadText) EX.bC EX.i_ControlError EX.t_ControlError EX.s_ControlError
  have suite : ∀ (d : Addr) (H1 : Hp), Same H H1 → H1 d = some (.xd [("column", .int (c : Int)), ("line", .int 1)]) → True := fun _ _ _ _ => trivial
  refine ⟨_, rfl, b, rfl, ?_⟩
  cases b with
  | true =>
    refine iteT ⟨_, rfl, z, ts, rfl, hz, hT, ?_⟩
    have hc : rdW "condition" (endT z ts) = .error c := hc
    rw [hc]
    intro d H1 s1 e1
    refine ⟨true, ex, fun _ a ha => ?_, fun h => nomatch h⟩
    refine ⟨_, rfl, d, _, rfl, rfl, rfl, e1, fun H2 s2 => ?_⟩
    have e2 := s2 _ _ e1
    refine ⟨rfl, _, rfl, ?_⟩
    refine ifF (by decide +kernel) ?_
    refine ⟨_, rfl, rfl, rfl, d, _, _, rfl, e2, rfl, _, rfl, true, rfl, iteF ?_⟩
    refine ⟨_, rfl, rfl, rfl, d, _, _, rfl, e2, rfl, _, rfl, true, rfl, iteF ?_⟩
    refine ⟨_, rfl, rfl, rfl, d, _, _, rfl, e2, rfl, rfl, _, rfl, ?_⟩
    refine ifT (by decide +kernel) ?_
    refine ⟨_, rfl, rfl, rfl, d, _, _, rfl, e2, rfl, _, rfl, rfl, ?_⟩
    rw [decide_eq_true rfl]
    exact q H2 (s1.trans s2)
  | false =>
    refine iteF ⟨_, rfl, z, ts, rfl, hz, hT, ?_⟩
    have hc : rdW "expression" (endT z ts) = .error c := hc
    rw [hc]
    intro d H1 s1 e1
    refine ⟨true, ex, fun _ a ha => ?_, fun h => nomatch h⟩
    refine ⟨_, rfl, d, _, rfl, rfl, rfl, e1, fun H2 s2 => ?_⟩
    have e2 := s2 _ _ e1
    refine ⟨rfl, _, rfl, ?_⟩
    refine ifF (by decide +kernel) ?_
    refine ⟨_, rfl, rfl, rfl, d, _, _, rfl, e2, rfl, _, rfl, true, rfl, iteF ?_⟩
    refine ⟨_, rfl, rfl, rfl, d, _, _, rfl, e2, rfl, _, rfl, true, rfl, iteF ?_⟩
    refine ⟨_, rfl, rfl, rfl, d, _, _, rfl, e2, rfl, rfl, _, rfl, ?_⟩
    refine ifT (by decide +kernel) ?_
    refine ⟨_, rfl, rfl, rfl, d, _, _, rfl, e2, rfl, _, rfl, rfl, ?_⟩
    rw [decide_eq_true rfl]
    exact q H2 (s1.trans s2)
end
end NL

namespace NL
open PySem PySem.Spec PyProof.Rows L2
theorem mul_blank {v : Int} (h : v ∈ ([0, 1, 2, 7] : List Int)) : (0 ≤ v ∧ v ≤ 7) ∧ tl (Txt.mul " " v) = List.replicate v.toNat 32 := by
  simp only [List.mem_cons, List.not_mem_nil, or_false] at h
  rcases h with rfl | rfl | rfl | rfl <;> exact ⟨⟨by decide, by decide⟩, by decide +kernel⟩
/-- all but what stands at s stays -/
def But (s : Addr) (H H' : Hp) : Prop := ∀ b o, b ≠ s → H b = some o → H' b = some o
theorem But.same {s : Addr} {H H1 H2 : Hp} (h : But s H H1) (g : Same H1 H2) : But s H H2 := fun b o n e => g b o (h b o n e)
theorem But.put {s : Addr} {H H1 : Hp} {o : HO} (h : But s H H1) : But s H (upd H1 s o) := fun b u n e => by
  rw [upd_ne n]; exact h b u n e
/-! ### tokens with blanks, and where each begins -/
inductive LayS : List Str → List Nat → Nat → List Nat → Prop where
  | nil (k n : Nat) : LayS [] (List.replicate k 32) n []
  | cons (k : Nat) {t : Str} {r : List Str} {c : List Nat} {n : Nat} {ss : List Nat} : LayS r c (n + k + t.length) ss → LayS (t :: r) (List.replicate k 32 ++ (tl t ++ c)) n ((n + k) :: ss)
theorem LayS.len {ts : List Str} {c : List Nat} {n : Nat} {ss : List Nat} (h : LayS ts c n ss) : ss.length = ts.length := by
  induction h with
  | nil k n => rfl
  | cons k h ih => rw [List.length_cons, List.length_cons, ih]
def headN (cs l : List Nat) : Prop := ∀ c r, l = c :: r → c ∉ cs
/-- what may follow a token directly -/
def Sep (t : Str) (l : List Nat) : Prop := Pn t ∨ (tl t ≠ [] ∧ Wd t ∧ headN lets l) ∨ (NumT t ∧ headN digs l)
theorem Sep.cut {t : Str} {l : List Nat} (h : Tk t) (g : Cut l) : Sep t l := by
  rcases h with ⟨h0, hw⟩ | h | h
  · exact .inr (.inl ⟨h0, hw, fun c r e => (g c r e).1⟩)
  · exact .inr (.inr ⟨h, fun c r e => (g c r e).2⟩)
  · exact .inl h
theorem pc_sep {t : Str} {l : List Nat} (h : Sep t l) : pc (tl t ++ l) = t.length ∧ ∃ c r, tl t = c :: r ∧ c ≠ 32 := by
  rcases h with hp | ⟨h0, hw, g⟩ | ⟨⟨c, r, e, hc, hr⟩, g⟩
  · exact pc_tk (.inr (.inr hp)) (.inl hp)
  · have hall : ∀ c ∈ tl t, c ∈ lets := fun c hc => in_lets.mpr (hw c hc)
    cases e : tl t with
    | nil => exact absurd e h0
    | cons c r =>
      rw [← tl_len]
      rw [e] at hall ⊢
      have hc := hall c List.mem_cons_self
      refine ⟨?_, c, r, rfl, by have := in_lets.mp hc; omega⟩
      show (if c ∈ lets then rn lets (c :: (r ++ l)) else _) = _
      rw [if_pos hc]
      have := rn_app (c :: r) l hall
      rw [rn_stop fun x y h => g x y h] at this
      exact this
  · rw [← tl_len, e]
    have n1 : c ∉ lets := fun h => by
      have := in_lets.mp h
      rcases hc with hc | hc
      · omega
      · have := in_digs.mp hc; omega
    refine ⟨?_, c, r, rfl, ?_⟩
    · show (if c ∈ lets then _ else if c ∈ digs ∨ c = 45 then 1 + rn digs (r ++ l) else 1) = _
      rw [if_neg n1, if_pos (hc.symm), rn_app r l hr, rn_stop fun x y h => g x y h, List.length_cons]
      omega
    · rcases hc with hc | hc
      · omega
      · have := in_digs.mp hc; omega
def zipT (ts : List Str) (ss : List Nat) : List Tok := List.zipWith (fun t s => (t, s + 1)) ts ss
theorem cut_app {c l : List Nat} (h : Cut c) (h0 : c ≠ []) : Cut (c ++ l) := fun x r e => by
  cases c with
  | nil => exact absurd rfl h0
  | cons a b => cases e; exact h _ _ rfl
theorem rep_cut {k : Nat} (h : k ≠ 0) : Cut (List.replicate k 32) := fun c r e => by
  obtain ⟨k, rfl⟩ : ∃ j, k = j + 1 := ⟨k - 1, by omega⟩
  rw [List.replicate_succ] at e
  cases e
  exact ⟨fun h => by have := in_lets.mp h; omega, fun h => by have := in_digs.mp h; omega⟩
theorem layS_head {r : List Str} {c : List Nat} {n : Nat} {ss : List Nat} (h : LayS r c n ss) {b : Str} {r' : List Str} (e : r = b :: r') (hp : Pn b) : Cut c ∧ c ≠ [] := by
  cases h with
  | nil k n => cases e
  | cons k hL =>
    cases e
    obtain ⟨x, ex, hx⟩ := pn_code hp
    refine ⟨cut_blank fun c r e => ?_, fun e => ?_⟩
    · rw [ex] at e
      cases e
      exact ⟨fun h => by have := in_lets.mp h; omega, fun h => by have := in_digs.mp h; omega⟩
    · have := (List.append_eq_nil_iff.mp e).2
      rw [ex] at this
      cases this
/-- the tokens of laid tokens with a tail -/
theorem layS_toks {ts : List Str} {c : List Nat} {n : Nat} {ss : List Nat} (h : LayS ts c n ss) : (∀ t ∈ ts, Tk t) → Alt ts → ∀ (tail : List Nat) (tt : List Tok), (∀ pre t, c = pre ++ tl t → ts.getLast? = some t → Sep t tail) →
    Toks (tail.drop (rn sp tail)) (n + c.length + rn sp tail) tt → Toks ((c ++ tail).drop (rn sp (c ++ tail))) (n + rn sp (c ++ tail)) (zipT ts ss ++ tt) := by
  induction h with
  | nil k n =>
    intro _ _ tail tt _ hT
    rw [rn_app _ _ rep_blank, List.length_replicate, Nat.add_comm k, ← Nat.add_comm k]
    rw [List.length_replicate] at hT
    have e : (List.replicate k 32 ++ tail).drop (k + rn sp tail) = tail.drop (rn sp tail) := by
      rw [← List.drop_drop, List.drop_left' (List.length_replicate ..)]
    rw [e, ← Nat.add_assoc]
    exact hT
  | cons k hL ih =>
    rename_i t r c n ss
    intro hk ha tail tt hE hT
    have hTk := hk t List.mem_cons_self
    have hS : Sep t (c ++ tail) := by
      cases r with
      | nil =>
        cases hL with
        | nil k' n' =>
          by_cases h0 : k' = 0
          · subst h0
            exact hE (List.replicate k 32) t (by rw [List.replicate_zero, List.append_nil]) rfl
          · exact Sep.cut hTk (cut_app (rep_cut h0) fun e => h0 (by simpa using e))
      | cons b r' =>
        rcases ha.1 with hp | hp
        · exact .inl hp
        · obtain ⟨g1, g2⟩ := layS_head hL rfl hp
          exact Sep.cut hTk (cut_app g1 g2)
    obtain ⟨hp, x, y, ex, hx⟩ := pc_sep hS
    have e0 : (List.replicate k 32 ++ (tl t ++ c)) ++ tail = List.replicate k 32 ++ (tl t ++ (c ++ tail)) := by
      rw [List.append_assoc, List.append_assoc]
    have h0 : rn sp (tl t ++ (c ++ tail)) = 0 := by
      rw [ex]
      exact rn_out fun h => hx (in_blank.mp h)
    rw [e0, rn_app _ _ rep_blank, h0, Nat.add_zero, List.drop_left, List.length_replicate]
    have ha' : Alt r := by
      cases r with
      | nil => trivial
      | cons b r' => exact ha.2
    have hih := ih (fun u hu => hk u (List.mem_cons_of_mem _ hu)) ha' tail tt (fun pre u e el => hE (List.replicate k 32 ++ (tl t ++ pre)) u (by rw [e]; simp) (by
      cases r with
      | nil => cases el
      | cons b r' => rw [List.getLast?_cons_cons]; exact el)) (by
      rw [List.length_append, List.length_append, List.length_replicate, tl_len] at hT
      rw [show n + k + t.length + c.length + rn sp tail = n + (k + (t.length + c.length)) + rn sp tail by omega]
      exact hT)
    have hd : (tl t ++ (c ++ tail)).drop (pc (tl t ++ (c ++ tail))) = c ++ tail := by
      rw [hp, ← tl_len, List.drop_left]
    have ht : (⟨((tl t ++ (c ++ tail)).take (pc (tl t ++ (c ++ tail)))).toArray⟩ : Str) = t := by
      rw [hp, ← tl_len, List.take_left]
      exact mk_tl t
    have := Toks.cons (l := tl t ++ (c ++ tail)) (n := n + k) (ts := zipT r ss ++ tt) (by rw [ex]; exact List.cons_ne_nil _ _) (by rw [hd, hp]; exact hih)
    rw [ht] at this
    exact this
/-- any text has tokens -/
theorem toks_ex : ∀ (m : Nat) (l : List Nat) (n : Nat), l.length ≤ m → ∃ tt, Toks l n tt
  | 0, l, n, h => ⟨[], by rw [List.length_eq_zero_iff.mp (Nat.le_zero.mp h)]; exact .nil n⟩
  | m + 1, l, n, h => by
    by_cases h0 : l = []
    · rw [h0]; exact ⟨[], .nil n⟩
    · obtain ⟨p1, p2⟩ := pc_pos h0
      obtain ⟨tt, ht⟩ := toks_ex m ((l.drop (pc l)).drop (rn sp (l.drop (pc l)))) (n + pc l + rn sp (l.drop (pc l))) (by rw [List.length_drop, List.length_drop]; omega)
      exact ⟨_, .cons h0 ht⟩
def pieceOf (l : List Nat) : Str := ⟨(l.take (pc l)).toArray⟩
theorem toks_head {l : List Nat} {n : Nat} {tt : List Tok} (h : Toks l n tt) (h0 : l ≠ []) : ∃ r, tt = (pieceOf l, n + 1) :: r := by
  cases h with
  | nil => exact absurd rfl h0
  | cons _ h => exact ⟨_, rfl⟩
section
variable {P : Program} {w : World} {K : PySem.W.Frag} {mg : Str → Option Value} {base : Heap}
/-! ### _law_spaced -/
def spSpaced : Sp := fun vs H Q _ => ∃ (p s : Addr) (ts : List Str) (pat : Int), vs = [.ref p, .int pat, .ref s] ∧ H p = some (.lst (ts.map V.str)) ∧ p ≠ s ∧ H s = some (.lst []) ∧ ts.length ≤ 12000 ∧ (∀ t ∈ ts, t.length ≤ 300) ∧
  ∀ z ss H', But s H H' → H' s = some (.lst (ss.map fun k : Nat => V.int (k : Int))) → LayS ts (tl z) 0 ss → z.length ≤ 307 * ts.length + 7 → Q (.str z) H'
theorem ok_law_spaced (T : Txt K mg) : FnOk P w K mg base CX0 1 T.a_law_spaced T.d_law_spaced P_law_spaced spSpaced := by
  refine T.F_law_spaced.ok sc_law_spaced (fun vs H Q E h => ?_) (fun cdv A outer s H vs Q E hr h => ?_)
  · obtain ⟨p, s, ts, pat, rfl, _⟩ := h
    rfl
  obtain ⟨p, s, ts, pat, rfl, hp, hps, hs, hl, ht, q⟩ := h
  refine ⟨_, (pss_cons (ps_set (i := 3) sc_law_spaced.nd rfl (Or.inl rfl) pe_str)
    (pss_cons (ps_set (i := 4) sc_law_spaced.nd rfl (Or.inl rfl) (pv 1))
    (pss_cons (ps_for PassesOwn.never rfl (pi_list (pv 0)) (pg_name (i := 5) sc_law_spaced.nd rfl (Or.inl rfl))
    (pss_cons (ps_set (i := 3) sc_law_spaced.nd rfl (Or.inl rfl) (pe_op op_add_str (pv 3) (pe_op op_mulS pe_str (pe_ix ix_list (pe_lst (pa_cons pe_int (pa_cons pe_int (pa_cons pe_int (pa_cons pe_int pa_nil))))) (pe_op op_mod (pe_callTy call_int1 (by rfl) T.z_int (by decide +kernel) (pa_cons (pv 4) pa_nil)) pe_int) (fun _ _ => rfl)))))
    (pss_cons (ps_set (i := 4) sc_law_spaced.nd rfl (Or.inl rfl) (pe_op op_fdiv (pv 4) pe_int))
    (C8.pss_cut (ps_if (pt_cmpR op_eq (pv 4) pe_int (nomark _))
    (pss_one (ps_set (i := 4) sc_law_spaced.nd rfl (Or.inl rfl) (pv 1)))
    pss_nil)
    (pss_cons (ps_expr (pe_bm PySem.F.plainAttrs_list PySem.F.slot_list_append PySem.F.type_list_append mt_append (pv 2) (pa_cons (pe_callB call_len_str (by rfl) T.z_len PySem.boot_len (pa_cons (pv 3) pa_nil)) pa_nil)))
    (pss_one (ps_set (i := 3) sc_law_spaced.nd rfl (Or.inl rfl) (pe_op op_add_str (pv 3) (pv 5)))))))))
    (pss_one (ps_ret (pe_op op_add_str (pv 3) (pe_op op_mulS pe_str (pe_ix ix_list (pe_lst (pa_cons pe_int (pa_cons pe_int (pa_cons pe_int (pa_cons pe_int pa_nil))))) (pe_op op_mod (pe_callTy call_int1 (by rfl) T.z_int (by decide +kernel) (pa_cons (pv 4) pa_nil)) pe_int) (fun _ _ => rfl))))))))), ?_⟩
  have b1 : (" " : Str).length = 1 := by decide +kernel
  have mlen : ∀ v : Int, v ∈ ([0, 1, 2, 7] : List Int) → (Txt.mul " " v).length ≤ 7 := fun v hv => by
    obtain ⟨hb, e⟩ := mul_blank hv
    rw [← tl_len, e, List.length_replicate]
    omega
  refine ⟨_, rfl, _, rfl, p, rfl, ⟨_, sqd hp⟩, for_list (K := K) (a := p) (xs := ts.map V.str) (fun j σ H' => ∃ (z : Str) (rest : Int) (ns : List Nat) (y : Option V), σ = [some (.ref p), some (.int pat), some (.ref s), some (.str z), some (.int rest), y] ∧ But s H H' ∧ H' s = some (.lst (ns.map fun k : Nat => V.int (k : Int))) ∧ ns.length = j ∧ z.length ≤ 307 * j ∧
    ∀ r c ss, LayS r c z.length ss → LayS (ts.take j ++ r) (tl z ++ c) 0 (ns ++ ss)) ?_ ?_ ?_ ?_⟩
  · exact ⟨"", pat, [], none, rfl, fun _ _ _ e => e, hs, rfl, by decide +kernel, fun r c ss h => h⟩
  · rintro j σ H' _ ⟨z, rest, ns, y, rfl, f, _⟩
    exact sqd (f _ _ hps hp)
  · rintro j x σ H' hx ⟨z, rest, ns, y, rfl, f, es, hn, hz, hL⟩
    rw [List.getElem?_map] at hx
    cases htj : ts[j]? with
    | none => rw [htj] at hx; cases hx
    | some t =>
      rw [htj] at hx
      obtain rfl : V.str t = x := Option.some.inj hx
      have hj : j < ts.length := (List.getElem?_eq_some_iff.mp htj).1
      have htl := ht t (List.mem_of_getElem? htj)
      refine ⟨_, rfl, (Nat.le_of_ble_eq_true rfl), fun l hl' => ?_⟩
      obtain ⟨v, hv, hm⟩ := atI_map (f := V.int) (xs := [0, 1, 2, 7]) (i := rest % 4) (Int.emod_nonneg _ (by decide)) (by show rest % 4 < 4; exact Int.emod_lt_of_pos _ (by decide))
      obtain ⟨hb, em⟩ := mul_blank hm
      have hml := mlen v hm
      refine ⟨_, rfl, .inl ⟨_, rfl, _, _, rfl, rfl, (by show (0 : Int) < 4; decide), l, _, _, _, rfl, rfl, sqd upd_same, hv, ?_⟩⟩
      refine ⟨_, _, rfl, rfl, by rw [b1]; decide, hb.1, by omega, fun _ => ?_⟩
      refine ⟨_, _, rfl, rfl, szl (by omega), ?_⟩
      refine ⟨_, rfl, _, _, rfl, rfl, ⟨by decide, by decide⟩, ?_⟩
      have s1 := fun o => same_new hl' o
      have f1 := fun o => f.same (s1 o)
      have es1 := fun o => s1 o _ _ es
      refine ⟨fun σ' H'' => ∃ rest' : Int, σ' = [some (.ref p), some (.int pat), some (.ref s), some (.str (z ++ Txt.mul " " v)), some (.int rest'), some (.str t)] ∧ But s H H'' ∧ H'' s = some (.lst (ns.map fun k : Nat => V.int (k : Int))), ?_, ?_⟩
      · refine ⟨_, rfl, rfl, _, rfl, ?_⟩
        refine ite2 (fun c => ?_) (fun c => ?_)
        · exact ⟨_, rfl, _, rfl, f1 _, es1 _⟩
        · exact ⟨_, rfl, f1 _, es1 _⟩
      · rintro σ' H'' ⟨rest', rfl, f2, es2⟩
        have hzl : (z ++ Txt.mul " " v).length = z.length + (Txt.mul " " v).length := len_app _ _
        refine ⟨_, rfl, .inl ⟨rfl, _, sqd es2⟩, _, rfl, _, rfl, szl (by omega), s, _, _, rfl, rfl, es2, by rw [List.length_map, hn]; exact big' (by omega), ?_⟩
        refine ⟨_, rfl, _, rfl, _, _, rfl, rfl, szl (by omega), ?_⟩
        refine ⟨z ++ Txt.mul " " v ++ t, rest', ns ++ [(z ++ Txt.mul " " v).length], _, rfl, f2.put, by rw [upd_same, List.map_append] <;> rfl, ?_, ?_, fun r c ss h => ?_⟩
        · rw [List.length_append, hn] <;> rfl
        · rw [len_app]; omega
        · have hml2 : (Txt.mul " " v).length = v.toNat := by rw [← tl_len, em, List.length_replicate]
          have h1 := hL (t :: r) (List.replicate v.toNat 32 ++ (tl t ++ c)) ((z.length + v.toNat) :: ss) (.cons _ (by rw [len_app, hzl, hml2] at h; exact h))
          rw [List.take_add_one, htj, tl_app, tl_app, em, hzl, hml2]
          rw [List.append_assoc, List.append_assoc, List.append_assoc, List.append_assoc]
          exact h1
  · rintro σ H' ⟨z, rest, ns, y, rfl, f, es, hn, hz, hL⟩
    rw [List.length_map] at hn hz hL
    refine ⟨_, rfl, (Nat.le_of_ble_eq_true rfl), fun l hl' => ?_⟩
    obtain ⟨v, hv, hm⟩ := atI_map (f := V.int) (xs := [0, 1, 2, 7]) (i := rest % 4) (Int.emod_nonneg _ (by decide)) (by show rest % 4 < 4; exact Int.emod_lt_of_pos _ (by decide))
    obtain ⟨hb, em⟩ := mul_blank hm
    have hml := mlen v hm
    refine ⟨_, rfl, .inl ⟨_, rfl, _, _, rfl, rfl, (by show (0 : Int) < 4; decide), l, _, _, _, rfl, rfl, sqd upd_same, hv, ?_⟩⟩
    refine ⟨_, _, rfl, rfl, by rw [b1]; decide, hb.1, by omega, fun _ => ?_⟩
    refine ⟨_, _, rfl, rfl, szl (by omega), ?_⟩
    refine q _ ns _ (f.same (same_new hl' _)) (same_new hl' _ _ _ es) ?_ (by rw [len_app]; omega)
    have h1 := hL [] _ [] (.nil v.toNat z.length)
    rw [List.take_length, List.append_nil, List.append_nil] at h1
    rw [tl_app, em]
    exact h1
/-! ### _law_pattern -/
def spPattern : Sp := fun vs H Q _ => ∃ (d : Addr) (c : Int), vs = [.ref d, .int c] ∧ Dr H d ∧ ∀ n H', Go d H H' → Q (.int n) H'
theorem ok_law_pattern (T : Txt K mg) : FnOk P w K mg base CX0 2 T.a_law_pattern T.d_law_pattern P_law_pattern spPattern := by
  have G_law_take := ok_law_take (P := P) (w := w) (base := base) T
  refine T.F_law_pattern.ok sc_law_pattern (fun vs H Q E h => ?_) (fun cdv A outer s H vs Q E hr h => ?_)
  · obtain ⟨d, c, rfl, _⟩ := h
    rfl
  obtain ⟨d, c, rfl, hD, q⟩ := h
  refine ⟨_, (pss_one (ps_ret (pe_ix ix_list (pe_lst (pa_cons pe_int (pa_cons pe_int (pa_cons pe_int (pa_cons (pe_op op_add pe_int (pe_call G_law_take (hr.mono (by omega)) (by rfl) T.m_law_take T.F_law_take.kp T.b_law_take .nil pass0 (pa_cons (pv 0) (pa_cons pe_int pa_nil)))) (pa_cons (pe_op op_add pe_int (pe_call G_law_take (hr.mono (by omega)) (by rfl) T.m_law_take T.F_law_take.kp T.b_law_take .nil pass0 (pa_cons (pv 0) (pa_cons pe_int pa_nil)))) (pa_cons (pe_callB (call_abs) (by rfl) T.z_abs (by decide +kernel) (pa_cons (pv 1) pa_nil)) pa_nil))))))) (pe_call G_law_take (hr.mono (by omega)) (by rfl) T.m_law_take T.F_law_take.kp T.b_law_take .nil pass0 (pa_cons (pv 0) (pa_cons pe_int pa_nil))) (fun _ _ => rfl)))), ?_⟩
  refine ⟨_, rfl, d, _, rfl, hD, (by decide), fun r1 H1 g1 a0 a1 => ?_⟩
  refine ⟨_, _, rfl, rfl, _, rfl, d, _, rfl, g1.dr, (by decide), fun r2 H2 g2 b0 b1 => ?_⟩
  refine ⟨_, _, rfl, rfl, _, rfl, _, rfl, (Nat.le_of_ble_eq_true rfl), fun p hp => ?_⟩
  have g3 := fun o => Go.new (o := o) g2.dr hp
  refine ⟨_, rfl, d, _, rfl, (g3 _).dr, (by decide), fun u H4 g4 u0 u1 => ?_⟩
  have e4 := g4.at g2.dr hp
  obtain ⟨v, hv, hm⟩ := atI_map (f := V.int) (xs := [0, 1, 5, 1 + r1, 1 + r2, if c < 0 then -c else c]) u0 u1
  exact ⟨_, _, _, _, rfl, rfl, sqd e4, hv, q v H4 (g1.trans (g2.trans ((g3 _).trans g4)))⟩
end
end NL

namespace NL
open PySem PySem.Spec PyProof.Rows L2
/-! ### what fits at a place -/
inductive Cd where
  | ex (c : Bool)
  | te (c : Bool)
  | no (c : Bool)
  | opn
  | com
  | comc
  | en
  | fin
def Cd.str : Cd → Str
  | .ex false => "an expression"
  | .ex true => "an expression)"
  | .te false => "a condition"
  | .te true => "a condition)"
  | .no false => ""
  | .no true => ")"
  | .opn => "("
  | .com => ","
  | .comc => ",)"
  | .en => "an n"
  | .fin => "the end"
def mstr (m : Bool) : Str := if m then ")" else ""
def cdOf (t : Bool) (dp : Nat) (m : Bool) : Cd := if 12 < dp then .no m else if t then .te m else .ex m
def cc (o : Bool) : Cd := if o then .comc else .com
def cc2 (o : Bool) : Cd := if o then .comc else .no true
theorem cd_more (t m : Bool) : ((if t then ("a condition" : Str) else "an expression") ++ mstr m) = (if t then Cd.te m else Cd.ex m).str := by
  cases t <;> cases m <;> decide +kernel
theorem no_str (m : Bool) : (Cd.no m).str = mstr m := by cases m <;> rfl
mutual
/-- the tokens of an item, each with what fits there -/
def It.put : It → Nat → Bool → List (Str × Cd)
  | .num n, dp, m => [(itxt n, cdOf false dp m)]
  | .name x, dp, m => [(x, cdOf false dp m)]
  | .lit b, dp, m => [(bstr b, cdOf true dp m)]
  | .un w a, dp, m => (w, cdOf (wl w tests) dp m) :: (("(" : Str), Cd.opn) :: (a.put (dp + 1) false ++ [((")" : Str), Cd.no true)])
  | .dm w a n, dp, m => (w, cdOf false dp m) :: (("(" : Str), Cd.opn) :: (a.put (dp + 1) false ++ [(("," : Str), Cd.com), (itxt n, Cd.en), ((")" : Str), Cd.no true)])
  | .bin w a b, dp, m => (w, cdOf (wl w tests) dp m) :: (("(" : Str), Cd.opn) :: (a.put (dp + 1) false ++ ((("," : Str), Cd.com) :: (b.put (dp + 1) false ++ [((")" : Str), Cd.no true)])))
  | .tri a b c, dp, m => ("if", cdOf false dp m) :: (("(" : Str), Cd.opn) :: (a.put (dp + 1) false ++ ((("," : Str), Cd.com) :: (b.put (dp + 1) false ++ ((("," : Str), Cd.com) :: (c.put (dp + 1) false ++ [((")" : Str), Cd.no true)])))))
  | .grp w [], dp, m => (w, cdOf true dp m) :: (("(" : Str), Cd.opn) :: [((")" : Str), if 11 < dp then Cd.no true else Cd.te true)]
  | .grp w (a :: r), dp, m => (w, cdOf true dp m) :: (("(" : Str), Cd.opn) :: (a.put (dp + 1) true ++ putR r (dp + 1))
/-- behind the first condition of "all" or "any" -/
def putR : List It → Nat → List (Str × Cd)
  | [], _ => [((")" : Str), Cd.comc)]
  | a :: r, dp => (("," : Str), Cd.comc) :: (a.put dp false ++ putR r dp)
end
/-- parts with commas -/
def putK (o : Bool) (dp : Nat) : List It → List (Str × Cd)
  | [] => []
  | a :: r => a.put dp o ++ r.flatMap fun b => (("," : Str), cc o) :: b.put dp false
theorem putK_snoc (o : Bool) (dp : Nat) (l : List It) (a : It) : putK o dp (l ++ [a]) = putK o dp l ++ (if l = [] then [] else [(("," : Str), cc o)]) ++ a.put dp (o && l.isEmpty) := by
  cases l with
  | nil => simp [putK]
  | cons b r => simp [putK, List.flatMap_append]
def It.tailP : It → Nat → List (Str × Cd)
  | .dm _ _ n, _ => [(("," : Str), Cd.com), (itxt n, Cd.en), ((")" : Str), Cd.no true)]
  | .grp _ [], dp => [((")" : Str), if 11 < dp then Cd.no true else Cd.te true)]
  | .grp _ (_ :: _), _ => [((")" : Str), Cd.comc)]
  | _, _ => [((")" : Str), Cd.no true)]
theorem putR_eq (dp : Nat) : ∀ r : List It, putR r dp = (r.flatMap fun b => (("," : Str), cc true) :: b.put dp false) ++ [((")" : Str), Cd.comc)]
  | [] => by rw [putR]; rfl
  | a :: r => by rw [putR, putR_eq dp r]; simp [cc]
theorem put_eq {xs : List Str} {B : Nat} {b : Bool} {i : It} (h : Okx xs B b i) (h0 : i.cls ≠ 0) (dp : Nat) (m : Bool) :
    i.put dp m = (i.word, cdOf b dp m) :: (("(" : Str), Cd.opn) :: (putK (i.cls == 1) (dp + 1) i.kids ++ i.tailP dp) := by
  have hb := word_test h
  cases i with
  | num _ => exact absurd rfl h0
  | name _ => exact absurd rfl h0
  | lit _ => exact absurd rfl h0
  | un w a => rw [It.put, ← hb]; simp [It.word, It.kids, It.tailP, It.cls, putK]
  | dm w a n =>
    have hb2 : b = false := by cases h; rfl
    subst hb2
    rw [It.put]; simp [It.word, It.kids, It.tailP, It.cls, putK]
  | bin w x y => rw [It.put, ← hb]; simp [It.word, It.kids, It.tailP, It.cls, putK, cc]
  | tri x y z =>
    have hb2 : b = false := by cases h; rfl
    subst hb2
    rw [It.put]; simp [It.word, It.kids, It.tailP, It.cls, putK, cc]
  | grp w l =>
    have hb2 : b = true := by cases h; rfl
    subst hb2
    cases l with
    | nil => rw [It.put]; simp [It.word, It.kids, It.tailP, It.cls, putK]
    | cons a r => rw [It.put, putR_eq]; simp [It.word, It.kids, It.tailP, It.cls, putK]
theorem put_fst {xs : List Str} {B : Nat} {b : Bool} {i : It} (h : Okx xs B b i) : ∀ (dp : Nat) (m : Bool), (i.put dp m).map Prod.fst = i.tk := by
  refine kids_rec (p := fun i => ∀ (dp : Nat) (m : Bool), (i.put dp m).map Prod.fst = i.tk) (fun b i h h0 => ?_) (fun b i h h0 ih => ?_) h
  · intro dp m
    cases i with
    | num _ => rw [It.put, It.tk]; rfl
    | name _ => rw [It.put, It.tk]; rfl
    | lit _ => rw [It.put, It.tk]; rfl
    | un _ _ => cases h0
    | dm _ _ _ => cases h0
    | bin _ _ _ => cases h0
    | tri _ _ _ => cases h0
    | grp _ _ => cases h0
  · intro dp m
    rw [put_eq h h0, tk_eq h0]
    have hk : ∀ (o : Bool) (dp : Nat) (l : List It), (∀ j ∈ l, ∀ dp m, (j.put dp m).map Prod.fst = j.tk) → (putK o dp l).map Prod.fst = sepF (l.map It.tk) := by
      intro o dp l hl
      cases l with
      | nil => rfl
      | cons a r =>
        show (a.put dp o ++ r.flatMap _).map Prod.fst = a.tk ++ (r.map It.tk).flatMap _
        rw [List.map_append, hl a List.mem_cons_self]
        congr 1
        have hr : ∀ j ∈ r, ∀ dp m, (j.put dp m).map Prod.fst = j.tk := fun j hj => hl j (List.mem_cons_of_mem _ hj)
        clear hl
        induction r with
        | nil => rfl
        | cons c r ihr =>
          rw [List.flatMap_cons, List.map_append, List.map_cons, ihr fun j hj => hr j (List.mem_cons_of_mem _ hj), hr c List.mem_cons_self, List.map_cons, List.flatMap_cons]
    have ht : (i.tailP dp).map Prod.fst = i.tailT ++ ([")"] : List Str) := by
      cases i with
      | grp w l => cases l <;> rfl
      | _ => rfl
    rw [List.map_cons, List.map_cons, List.map_append, hk _ _ _ ih, ht]
    simp
theorem put_len {xs : List Str} {B : Nat} {b : Bool} {i : It} (h : Okx xs B b i) (dp : Nat) (m : Bool) : (i.put dp m).length = i.tk.length := by
  rw [← put_fst h dp m, List.length_map]
theorem putK_len {xs : List Str} {B : Nat} (hx : ∀ x ∈ xs, Nw x) (hB : B < 10 ^ 60 + 1) (o : Bool) (dp : Nat) : ∀ l : List It, (∀ j ∈ l, ∃ b, Okx xs B b j) → (putK o dp l).length ≤ 10 * szL l
  | [], _ => Nat.zero_le _
  | a :: r, h => by
    have hone : ∀ j ∈ a :: r, ∀ m, (j.put dp m).length + 2 ≤ 10 * j.sz := fun j hj m => by
      obtain ⟨b, ho⟩ := h j hj
      rw [put_len ho]
      exact (wr_len hx hB ho).2
    have hr : ∀ l : List It, (∀ j ∈ l, ∀ m, (j.put dp m).length + 2 ≤ 10 * j.sz) → (l.flatMap fun b => ((("," : Str), cc o) :: b.put dp false)).length ≤ 10 * szL l := fun l => by
      induction l with
      | nil => intro _; exact Nat.zero_le _
      | cons c l ih =>
        intro hl
        have h1 := hl c List.mem_cons_self false
        have h2 := ih fun j hj => hl j (List.mem_cons_of_mem _ hj)
        rw [List.flatMap_cons, List.length_append, List.length_cons, szL]
        omega
    have h1 := hone a List.mem_cons_self o
    have h2 := hr r fun j hj => hone j (List.mem_cons_of_mem _ hj)
    show (a.put dp o ++ r.flatMap _).length ≤ _
    rw [List.length_append, szL]
    omega
theorem szL_take {k : It} : ∀ {l : List It} {j : Nat}, l[j]? = some k → szL (l.take j) + k.sz ≤ szL l
  | [], j, h => by simp at h
  | a :: r, 0, h => by
    cases Option.some.inj h
    rw [List.take_zero, szL, szL]
    omega
  | a :: r, j + 1, h => by
    have := szL_take (l := r) (j := j) (by simpa using h)
    rw [List.take_succ_cons, szL, szL]
    omega
def It.tailQ : It → List (Str × Cd)
  | .dm _ _ n => [((("," : Str)), Cd.com), (itxt n, Cd.en)]
  | _ => []
def It.lastC (i : It) (dp : Nat) : Cd := if (i.cls == 1) = true ∧ i.kids = [] then (if 11 < dp then .no true else .te true) else if (i.cls == 1) = true then .comc else .no true
theorem tailP_eq {i : It} (h0 : i.cls ≠ 0) (dp : Nat) : i.tailP dp = i.tailQ ++ [((")" : Str), i.lastC dp)] := by
  cases i with
  | num _ => exact absurd rfl h0
  | name _ => exact absurd rfl h0
  | lit _ => exact absurd rfl h0
  | grp w l => cases l <;> simp [It.tailP, It.tailQ, It.lastC, It.cls, It.kids]
  | _ => simp [It.tailP, It.tailQ, It.lastC, It.cls]
/-- the places in the heap -/
def PlL (H : Hp) (xs : List V) (L : List (Str × Cd)) : Prop := xs.length = L.length ∧ ∀ (k : Nat) p, L[k]? = some p → ∃ a, xs[k]? = some (.ref a) ∧ H a = some (.tup [.str p.1, .str p.2.str])
theorem PlL.mono {H H' : Hp} {xs : List V} {L : List (Str × Cd)} (h : PlL H xs L) (t : Tp H H') : PlL H' xs L := ⟨h.1, fun k p e => by
  obtain ⟨a, h1, h2⟩ := h.2 k p e
  exact ⟨a, h1, t _ _ h2⟩⟩
theorem PlL.nil {H : Hp} : PlL H [] [] := ⟨rfl, fun k p h => by simp at h⟩
theorem PlL.app {H : Hp} {xs ys : List V} {L M : List (Str × Cd)} (h : PlL H xs L) (g : PlL H ys M) : PlL H (xs ++ ys) (L ++ M) := ⟨by rw [List.length_append, List.length_append, h.1, g.1], fun k p e => by
  by_cases hk : k < L.length
  · rw [List.getElem?_append_left hk] at e
    rw [List.getElem?_append_left (by rw [h.1]; exact hk)]
    exact h.2 k p e
  · rw [List.getElem?_append_right (by omega)] at e
    rw [List.getElem?_append_right (by rw [h.1]; omega), h.1]
    exact g.2 _ p e⟩
theorem PlL.one {H : Hp} {a : Addr} {t : Str} {c : Cd} (e : H a = some (.tup [.str t, .str c.str])) : PlL H [.ref a] [(t, c)] := ⟨rfl, fun k p h => by
  cases k with
  | zero => cases h; exact ⟨a, rfl, e⟩
  | succ k => simp at h⟩
theorem But.tp {q : Addr} {H H' : Hp} {ys : List V} (b : But q H H') (e : H q = some (.lst ys)) : Tp H H' := fun a xs ea => by
  refine b a _ ?_ ea
  rintro rfl
  rw [e] at ea; cases ea
theorem But.refl {q : Addr} {H : Hp} : But q H H := fun _ _ _ e => e
theorem But.trans {q : Addr} {H H1 H2 : Hp} (a : But q H H1) (b : But q H1 H2) : But q H H2 := fun c o n e => b c o n (a c o n e)
/-- one place more -/
theorem But.add {q p : Addr} {H H1 : Hp} {ys zs : List V} {u w : HO} (b : But q H H1) (hp : H1 p = none) : But q H (upd (upd H1 p u) q w) := (b.same (same_new hp _)).put
theorem add_pl {q p : Addr} {H1 : Hp} {ys : List V} {t : Str} {c : Cd} {zs : List V} {L : List (Str × Cd)} {w : HO} (e : H1 q = some (.lst ys)) (hp : H1 p = none) (h : PlL H1 zs L) : PlL (upd (upd H1 p (.tup [.str t, .str c.str])) q w) (zs ++ [.ref p]) (L ++ [(t, c)]) := by
  have e2 : upd H1 p (.tup [.str t, .str c.str]) q = some (.lst ys) := by rw [upd_ne (ne_of_none e hp)]; exact e
  exact ((h.mono (Tp.same (same_new hp _))).app (.one upd_same)).mono (tp_put e2)
section
variable {P : Program} {w : World} {K : PySem.W.Frag} {mg : Str → Option Value} {base : Heap}
/-! ### _law_put -/
def spPut (n : Nat) : Sp := fun vs H Q _ => ∃ (q : Addr) (v : V) (i : It) (xs : List Str) (B : Nat) (b : Bool) (dp : Nat) (m : Bool) (ys : List V), vs = [.ref q, v, .int (dp : Int), .str (mstr m)] ∧ H q = some (.lst ys) ∧ ItemIn H i v ∧ Fit xs B n b i ∧ ys.length + 10 * i.sz ≤ 100000 ∧
  ∀ H' zs, But q H H' → H' q = some (.lst (ys ++ zs)) → PlL H' zs (i.put dp m) → Q .non H'
theorem ok_law_put (T : Txt K mg) : ∀ n : Nat, FnOk P w K mg base CX0 (n + 6) T.a_law_put T.d_law_put P_law_put (spPut n)
  | 0 => by
    have no : ∀ vs H Q E, ¬ spPut 0 vs H Q E := fun vs H Q E ⟨q, v, i, xs, B, b, dp, m, ys, _, _, _, f, _⟩ => by
      have := dep_pos i
      have := f.dp
      omega
    exact ⟨fun vs H Q E h => absurd h (no vs H Q E), fun A outer s H args us vs Q E _ _ _ _ h => absurd h (no vs H Q E)⟩
  | n + 1 => by
    have G_law_put := ok_law_put T n
    have G_law_is_test := ok_law_is_test (P := P) (w := w) (base := base) T
    have G_law_inner := ok_law_inner (P := P) (w := w) (base := base) T
    have G_law_tokens := ok_law_tokens (P := P) (w := w) (base := base) T (n + 1)
    refine T.F_law_put.ok sc_law_put (fun vs H Q E h => ?_) (fun cdv A outer s H vs Q E hr h => ?_)
    · obtain ⟨q, v, i, xs, B, b, dp, m, ys, rfl, _⟩ := h
      rfl
    obtain ⟨q, v, i, xs, B, b, dp, m, ys, rfl, eq, hi, hf, hlen, g⟩ := h
    obtain ⟨a, rfl⟩ := hi.ref
    obtain ⟨rr, ha⟩ := hi.head
    have ho := hf.ok
    refine ⟨_, (pss_cons (ps_set (i := 4) sc_law_put.nd rfl (Or.inl rfl) (pe_op op_add_str (pe_ix ix_list (pe_lst (pa_cons pe_str (pa_cons pe_str pa_nil))) (pe_callTy call_int1 (by rfl) T.z_int (by decide +kernel) (pa_cons (pe_call G_law_is_test (hr.mono (by omega)) (by rfl) T.m_law_is_test T.F_law_is_test.kp T.b_law_is_test .nil pass0 (pa_cons (pv 1) pa_nil)) pa_nil)) (fun _ _ => rfl)) (pv 3)))
    (C8.pss_cut (ps_if (pt_cmpR op_gt (pv 2) pe_int (nomark _))
    (pss_one (ps_set (i := 4) sc_law_put.nd rfl (Or.inl rfl) (pv 3)))
    pss_nil)
    (pss_cons (ps_if (PW.pt (pw_or (pt_cmpR op_eq (pe_ix ix_tup (pv 1) pe_int (fun _ _ => rfl)) pe_str (nomark _)) (pw_or (pt_cmpR op_eq (pe_ix ix_tup (pv 1) pe_int (fun _ _ => rfl)) pe_str (nomark _)) (pw_or (pt_cmpR op_eq (pe_ix ix_tup (pv 1) pe_int (fun _ _ => rfl)) pe_str (nomark _)) (pw_or1 (pt_cmpR op_eq (pe_ix ix_tup (pv 1) pe_int (fun _ _ => rfl)) pe_str (nomark _)))))))
    (pss_cons (ps_expr (pe_bm PySem.F.plainAttrs_list PySem.F.slot_list_append PySem.F.type_list_append mt_append (pv 0) (pa_cons (pe_tup (pa_cons (pe_ix ix_list (pe_call G_law_tokens (hr.mono (by omega)) (by rfl) T.m_law_tokens T.F_law_tokens.kp T.b_law_tokens .nil pass0 (pa_cons (pv 1) pa_nil)) pe_int (fun _ _ => rfl)) (pa_cons (pv 4) pa_nil))) pa_nil)))
    (pss_one ps_retN))
    pss_nil)
    (pss_cons (ps_expr (pe_bm PySem.F.plainAttrs_list PySem.F.slot_list_append PySem.F.type_list_append mt_append (pv 0) (pa_cons (pe_tup (pa_cons (pe_ix ix_tup (pv 1) pe_int (fun _ _ => rfl)) (pa_cons (pv 4) pa_nil))) pa_nil)))
    (pss_cons (ps_expr (pe_bm PySem.F.plainAttrs_list PySem.F.slot_list_append PySem.F.type_list_append mt_append (pv 0) (pa_cons (pe_tup (pa_cons pe_str (pa_cons pe_str pa_nil))) pa_nil)))
    (pss_cons (ps_set (i := 5) sc_law_put.nd rfl (Or.inl rfl) (pe_call G_law_inner (hr.mono (by omega)) (by rfl) T.m_law_inner T.F_law_inner.kp T.b_law_inner .nil pass0 (pa_cons (pv 1) pa_nil)))
    (pss_cons (ps_set (i := 6) sc_law_put.nd rfl (Or.inl rfl) (pe_or (pe_cmpR op_eq (pe_ix ix_tup (pv 1) pe_int (fun _ _ => rfl)) pe_str (nomark _)) (pe_one (pe_cmpR op_eq (pe_ix ix_tup (pv 1) pe_int (fun _ _ => rfl)) pe_str (nomark _)))))
    (pss_cons (ps_for PassesOwn.never rfl (pi_range1 (by rfl) T.z_range (pa_cons (pe_callB call_len_seq (by rfl) T.z_len PySem.boot_len (pa_cons (pv 5) pa_nil)) pa_nil)) (pg_name (i := 7) sc_law_put.nd rfl (Or.inl rfl))
    (C8.pss_cut (ps_if (pt_cmpR op_gt (pv 7) pe_int (nomark _))
    (pss_one (ps_expr (pe_bm PySem.F.plainAttrs_list PySem.F.slot_list_append PySem.F.type_list_append mt_append (pv 0) (pa_cons (pe_tup (pa_cons pe_str (pa_cons (pe_ix ix_list (pe_lst (pa_cons pe_str (pa_cons pe_str pa_nil))) (pe_callTy call_int1 (by rfl) T.z_int (by decide +kernel) (pa_cons (pv 6) pa_nil)) (fun _ _ => rfl)) pa_nil))) pa_nil))))
    pss_nil)
    (pss_one (ps_expr (pe_call G_law_put (hr.mono (by omega)) (by rfl) T.m_law_put T.F_law_put.kp T.b_law_put .nil pass0 (pa_cons (pv 0) (pa_cons (pe_ix ix_list (pv 5) (pv 7) (fun _ _ => rfl)) (pa_cons (pe_op op_add (pv 2) pe_int) (pa_cons (pe_ix ix_list (pe_lst (pa_cons pe_str (pa_cons pe_str pa_nil))) (pe_callTy call_int1 (by rfl) T.z_int (by decide +kernel) (pa_cons (pe_and (pv 6) (pe_one (pe_cmpR op_eq (pv 7) pe_int (nomark _)))) pa_nil)) (fun _ _ => rfl)) pa_nil)))))))))
    (C8.pss_cut (ps_if (PW.pt (pw_or (pt_cmpR op_eq (pe_ix ix_tup (pv 1) pe_int (fun _ _ => rfl)) pe_str (nomark _)) (pw_or1 (pt_cmpR op_eq (pe_ix ix_tup (pv 1) pe_int (fun _ _ => rfl)) pe_str (nomark _)))))
    (pss_cons (ps_expr (pe_bm PySem.F.plainAttrs_list PySem.F.slot_list_append PySem.F.type_list_append mt_append (pv 0) (pa_cons (pe_tup (pa_cons pe_str (pa_cons pe_str pa_nil))) pa_nil)))
    (pss_one (ps_expr (pe_bm PySem.F.plainAttrs_list PySem.F.slot_list_append PySem.F.type_list_append mt_append (pv 0) (pa_cons (pe_tup (pa_cons (pe_callTy call_str_int (by rfl) T.z_str (by decide +kernel) (pa_cons (pe_ix ix_tup (pv 1) pe_int (fun _ _ => rfl)) pa_nil)) (pa_cons pe_str pa_nil))) pa_nil)))))
    pss_nil)
    (pss_one (ps_if (PW.pt (pw_and (pt_val (pv 6)) (pw_and1 (pt_cmpR op_eq (pe_callB call_len_seq (by rfl) T.z_len PySem.boot_len (pa_cons (pv 5) pa_nil)) pe_int (nomark _)))))
    (pss_one (ps_expr (pe_bm PySem.F.plainAttrs_list PySem.F.slot_list_append PySem.F.type_list_append mt_append (pv 0) (pa_cons (pe_tup (pa_cons pe_str (pa_cons (pe_ix ix_list (pe_lst (pa_cons pe_str (pa_cons pe_str pa_nil))) (pe_callTy call_int1 (by rfl) T.z_int (by decide +kernel) (pa_cons (pe_cmpR op_gt (pv 2) pe_int (nomark _)) pa_nil)) (fun _ _ => rfl)) pa_nil))) pa_nil))))
    (pss_one (ps_expr (pe_bm PySem.F.plainAttrs_list PySem.F.slot_list_append PySem.F.type_list_append mt_append (pv 0) (pa_cons (pe_tup (pa_cons pe_str (pa_cons (pe_ix ix_list (pe_lst (pa_cons pe_str (pa_cons pe_str pa_nil))) (pe_callTy call_int1 (by rfl) T.z_int (by decide +kernel) (pa_cons (pv 6) pa_nil)) (fun _ _ => rfl)) pa_nil))) pa_nil))))))))))))))), ?_⟩
    have hsl : ∀ x : Str, (x.length ≤ 300) → x.length ≤ sizeLine := fun x h => szl (by omega)
    refine ⟨(Nat.le_of_ble_eq_true rfl), fun l0 hl0 => ?_⟩
    have b0 : But q H (upd H l0 (.lst [.str "an expression", .str "a condition"])) := fun c o _ e => same_new hl0 _ _ _ e
    refine ⟨_, rfl, _, i, xs, B, b, rfl, hi.mono (b0.tp eq), ho, fun H1 s1 => ?_⟩
    have b1 : But q H H1 := b0.same s1
    have eq1 : H1 q = some (.lst ys) := s1 _ _ (same_new hl0 _ _ _ eq)
    have hi1 := hi.mono (b1.tp eq)
    have ha1 := b1.tp eq _ _ ha
    have hcode : atI [V.str "an expression", V.str "a condition"] (if b = true then 1 else 0) = some (V.str (if b = true then "a condition" else "an expression")) := by
      cases b
      · exact atI0
      · exact atI1
    have hml : (mstr m).length ≤ 1 := by cases m <;> decide +kernel
    have hcl : ∀ c : Cd, c.str.length ≤ 14 := fun c => by cases c with
      | ex c => cases c <;> decide +kernel
      | te c => cases c <;> decide +kernel
      | no c => cases c <;> decide +kernel
      | _ => decide +kernel
    refine .inr ⟨b, rfl, _, _, _, _, rfl, rfl, sqd (s1 _ _ upd_same), hcode, _, rfl, _, _, rfl, rfl, ?_, ?_⟩
    · refine szl ?_
      have : (if b = true then ("a condition" : Str) else "an expression").length ≤ 13 := by cases b <;> decide +kernel
      omega
    refine ⟨fun σ H' => σ = [some (.ref q), some (.ref a), some (.int (dp : Int)), some (.str (mstr m)), some (.str (cdOf b dp m).str), none, none, none] ∧ H' = H1, ?_, ?_⟩
    · refine ⟨_, rfl, _, _, rfl, rfl, _, rfl, ?_⟩
      by_cases hd : 12 < dp
      · refine ifT (decide_eq_true (by omega)) ?_
        refine ⟨_, rfl, ?_, rfl⟩
        unfold cdOf
        rw [if_pos hd, no_str]
        rfl
      · refine ifF (decide_eq_false (by omega)) ⟨?_, rfl⟩
        rw [cd_more]
        unfold cdOf
        rw [if_neg hd]
        rfl
    rintro σ H' ⟨rfl, rfl⟩
    have hls := wr_len hf.nm hf.bd ho
    have hzz := hf.sz
    by_cases h0 : i.cls = 0
    · refine' cutP ?f ?b
      case f =>
        intro body
        refine ⟨_, rfl, a, _, 0, _, rfl, rfl, sqt ha1, atI0, rfl, _, rfl, ?_⟩
        refine ite2 (fun c => iteT body) (fun c1 => ?_)
        refine ⟨_, rfl, a, _, 0, _, rfl, rfl, sqt ha1, atI0, rfl, _, rfl, ?_⟩
        refine ite2 (fun c => iteT body) (fun c2 => ?_)
        refine ⟨_, rfl, a, _, 0, _, rfl, rfl, sqt ha1, atI0, rfl, _, rfl, ?_⟩
        refine ite2 (fun c => iteT body) (fun c3 => ?_)
        refine ⟨_, rfl, a, _, 0, _, rfl, rfl, sqt ha1, atI0, rfl, _, rfl, ?_⟩
        refine ite2 (fun c => body) (fun c4 => ?_)
        exfalso
        have h := (word_cls ho).1
        rw [h0] at h
        have h := of_decide_eq_true (show decide (i.word ∈ (["number", "name", "true", "false"] : List Str)) = true from h)
        simp only [List.mem_cons, List.not_mem_nil, or_false] at h
        rcases h with h | h | h | h
        · exact c1 (decide_eq_true (by rw [h]))
        · exact c2 (decide_eq_true (by rw [h]))
        · exact c3 (decide_eq_true (by rw [h]))
        · exact c4 (decide_eq_true (by rw [h]))
      case b =>
        obtain ⟨tok, et, ep⟩ : ∃ tok, i.tk = [tok] ∧ i.put dp m = [(tok, cdOf b dp m)] := by
          cases ho with
          | num _ => exact ⟨_, by rw [It.tk], by rw [It.put]⟩
          | name _ => exact ⟨_, by rw [It.tk], by rw [It.put]⟩
          | lit => exact ⟨_, by rw [It.tk], by rw [It.put]⟩
          | abs _ => cases h0
          | not _ => cases h0
          | dm _ _ _ _ => cases h0
          | bin _ _ _ => cases h0
          | cmp _ _ _ => cases h0
          | tri _ _ _ => cases h0
          | grp _ _ _ => cases h0
        refine ⟨_, rfl, .inl ⟨rfl, _, sqd eq1⟩, _, rfl, _, i, xs, B, b, rfl, hi1, hf, fun p H2 s2 hp e2 => ?_⟩
        rw [et] at e2
        have eq2 := s2 _ _ eq1
        refine ⟨_, _, 0, _, rfl, rfl, sqd e2, atI0, _, rfl, (Nat.le_of_ble_eq_true rfl), fun t ht => ?_⟩
        refine ⟨q, _, _, rfl, rfl, same_new ht _ _ _ eq2, szl' (by omega), ?_⟩
        refine g _ [.ref t] ((b1.same s2).add (ys := ys) (zs := []) ht) upd_same ?_
        rw [ep]
        exact add_pl eq2 ht .nil
    have nw : ∀ z ∈ (["number", "name", "true", "false"] : List Str), decide (V.str i.word = V.str z) = false := fun z hz => word_ne ho h0 hz
    refine ⟨_, rfl, a, _, 0, _, rfl, rfl, sqt ha1, atI0, rfl, _, rfl, ?_⟩
    refine ifF (nw _ (by decide +kernel)) ?_
    refine ⟨_, rfl, a, _, 0, _, rfl, rfl, sqt ha1, atI0, rfl, _, rfl, ?_⟩
    refine ifF (nw _ (by decide +kernel)) ?_
    refine ⟨_, rfl, a, _, 0, _, rfl, rfl, sqt ha1, atI0, rfl, _, rfl, ?_⟩
    refine ifF (nw _ (by decide +kernel)) ?_
    refine ⟨_, rfl, a, _, 0, _, rfl, rfl, sqt ha1, atI0, rfl, _, rfl, ?_⟩
    refine ifF (nw _ (by decide +kernel)) ?_
    -- the word, the parenthesis
    refine ⟨_, rfl, .inl ⟨rfl, _, sqd eq1⟩, _, rfl, a, _, 0, _, rfl, rfl, sqt ha1, atI0, _, rfl, (Nat.le_of_ble_eq_true rfl), fun t1 ht1 => ?_⟩
    refine ⟨q, _, _, rfl, rfl, same_new ht1 _ _ _ eq1, szl' (by omega), ?_⟩
    have b2 := b1.add (ys := ys) (zs := []) (u := .tup [.str i.word, .str (cdOf b dp m).str]) (w := .lst (ys ++ [.ref t1])) ht1
    have l2 := add_pl (t := i.word) (c := cdOf b dp m) (w := .lst (ys ++ [.ref t1])) eq1 ht1 (.nil)
    have eq2 : upd (upd H' t1 (.tup [.str i.word, .str (cdOf b dp m).str])) q (.lst (ys ++ [.ref t1])) q = some (.lst (ys ++ [.ref t1])) := upd_same
    generalize upd (upd H' t1 (.tup [.str i.word, .str (cdOf b dp m).str])) q (.lst (ys ++ [.ref t1])) = H2 at b2 l2 eq2 ⊢
    refine ⟨_, rfl, .inl ⟨rfl, _, sqd eq2⟩, (Nat.le_of_ble_eq_true rfl), fun t2 ht2 => ?_⟩
    refine ⟨q, _, _, rfl, rfl, same_new ht2 _ _ _ eq2, ?_, ?_⟩
    · rw [List.length_append, List.length_singleton]; exact szl' (by omega)
    have b3 := b2.trans ((But.refl (q := q) (H := H2)).add (ys := ys) (zs := []) (u := .tup [.str "(", .str "("]) (w := .lst ((ys ++ [.ref t1]) ++ [.ref t2])) ht2)
    have l3 := add_pl (t := "(") (c := .opn) (w := .lst ((ys ++ [.ref t1]) ++ [.ref t2])) eq2 ht2 l2
    have eq3 : upd (upd H2 t2 (.tup [.str "(", .str "("])) q (.lst ((ys ++ [.ref t1]) ++ [.ref t2])) q = some (.lst ((ys ++ [.ref t1]) ++ [.ref t2])) := upd_same
    have l3 : PlL (upd (upd H2 t2 (.tup [.str "(", .str "("])) q (.lst ((ys ++ [.ref t1]) ++ [.ref t2]))) [.ref t1, .ref t2] [(i.word, cdOf b dp m), ("(", .opn)] := l3
    have eyy : (ys ++ [V.ref t1]) ++ [.ref t2] = ys ++ [.ref t1, .ref t2] := by rw [List.append_assoc] <;> rfl
    generalize upd (upd H2 t2 (.tup [.str "(", .str "("])) q (.lst ((ys ++ [.ref t1]) ++ [.ref t2])) = H3 at b3 l3 eq3 ⊢
    rw [eyy] at eq3
    have hi3 := hi.mono (b3.tp eq)
    refine ⟨_, rfl, _, i, xs, B, b, rfl, hi3, ho, fun lp vs H4 s4 hlp e4 hk => ?_⟩
    have b4 := b3.same s4
    have eq4 := s4 _ _ eq3
    have l4 := l3.mono (Tp.same s4)
    have hi4 := hi.mono (b4.tp eq)
    have ha4 := b4.tp eq _ _ ha
    have nlp : lp ≠ q := fun e => by rw [e, eq3] at hlp; cases hlp
    have hkl := kids_len ho
    have hcls := (word_cls ho).2.2.2.1
    refine' cutP ?f2 ?b2
    case f2 =>
      intro body
      refine ⟨_, rfl, a, _, 0, _, rfl, rfl, sqt ha4, atI0, rfl, _, rfl, ?_⟩
      refine ite2 (fun c => ?_) (fun c => ?_)
      · have e1 : V.bl true = V.bl (i.cls == 1) := by
          rw [← hcls]
          have := V.str.inj (of_decide_eq_true c)
          rw [this]
          decide +kernel
        rw [e1]
        exact body
      · refine ⟨_, rfl, a, _, 0, _, rfl, rfl, sqt ha4, atI0, rfl, ?_⟩
        have e2 : decide (V.str i.word = V.str "any") = (i.cls == 1) := by
          rw [← hcls, strE]
          unfold wl
          have c : ¬ decide (V.str i.word = V.str "all") = true := c
          rw [strE] at c
          have c' : i.word ≠ "all" := fun e => c (decide_eq_true e)
          refine decide_eq_decide.mpr ⟨fun e => by rw [e]; decide +kernel, fun e => ?_⟩
          simp only [List.mem_cons, List.not_mem_nil, or_false] at e
          exact e.resolve_left c'
        rw [e2]
        exact body
    case b2 =>
      generalize ho1 : (i.cls == 1) = o
      have hpl : ∀ j, (putK o (dp + 1) (i.kids.take j)).length ≤ 10 * i.sz := fun j => by
        have e := congrArg List.length (put_eq ho h0 dp m)
        rw [put_len ho, ho1] at e
        simp only [List.length_cons, List.length_append] at e
        have : (putK o (dp + 1) (i.kids.take j)).length ≤ (putK o (dp + 1) i.kids).length := by
          cases hkk : i.kids with
          | nil => rw [List.take_nil]; exact Nat.le_refl _
          | cons x r =>
            cases j with
            | zero => exact Nat.zero_le _
            | succ j =>
              show (x.put (dp + 1) o ++ (r.take j).flatMap _).length ≤ (x.put (dp + 1) o ++ r.flatMap _).length
              rw [List.length_append, List.length_append]
              have : r.flatMap (fun b => ((("," : Str), cc o) :: b.put (dp + 1) false)) = (r.take j).flatMap (fun b => ((("," : Str), cc o) :: b.put (dp + 1) false)) ++ (r.drop j).flatMap (fun b => ((("," : Str), cc o) :: b.put (dp + 1) false)) := by
                rw [← List.flatMap_append, List.take_append_drop]
              rw [this, List.length_append]
              omega
        omega
      refine ⟨_, rfl, _, _, rfl, .inl (sqd e4), ((vs.length : Nat) : Int), rfl, by omega, by rw [hk.1]; omega, for_range (lo := 0) (n := ((vs.length : Nat) : Int).toNat) (fun (j : Nat) (σ : L2.St) (H' : Hp) => ∃ (zs : List V) (y7 : Option V), σ = [some (.ref q), some (.ref a), some (.int (dp : Int)), some (.str (mstr m)), some (.str (cdOf b dp m).str), some (.ref lp), some (.bl o), y7] ∧
        But q H4 H' ∧ H' q = some (.lst (ys ++ zs)) ∧ PlL H' zs ([(i.word, cdOf b dp m), ("(", .opn)] ++ putK o (dp + 1) (i.kids.take j))) ?_ ?_ ?_⟩
      · exact ⟨_, none, rfl, But.refl, eq4, by rw [List.take_zero]; exact l4⟩
      · rintro j σ H5 hj ⟨zs, y7, rfl, b5, e5, l5⟩
        have hj2 : j < i.kids.length := by rw [← hk.1]; omega
        have hx : vs[j]? = some vs[j] := List.getElem?_eq_getElem (by rw [hk.1]; exact hj2)
        obtain ⟨kj, hkj, hin, hmem⟩ := hk.get hx
        obtain ⟨b', hf'⟩ := hf.kid hmem
        have hz5 := l5.1
        rw [List.length_append] at hz5
        have hp5 := hpl j
        have ej0 : (0 : Int) + (j : Int) = (j : Int) := Int.zero_add _
        refine ⟨fun σ' H'' => ∃ zs' : List V, σ' = [some (.ref q), some (.ref a), some (.int (dp : Int)), some (.str (mstr m)), some (.str (cdOf b dp m).str), some (.ref lp), some (.bl o), some (.int (0 + (j : Int)))] ∧
          But q H4 H'' ∧ H'' q = some (.lst (ys ++ zs')) ∧ PlL H'' zs' (([(i.word, cdOf b dp m), ("(", .opn)] ++ putK o (dp + 1) (i.kids.take j)) ++ (if i.kids.take j = [] then [] else [((("," : Str)), cc o)])), ?_, ?_⟩
        · refine ⟨_, rfl, _, _, rfl, rfl, _, rfl, ?_⟩
          by_cases hj0 : j = 0
          · subst hj0
            refine ifF (by decide +kernel) ⟨zs, rfl, b5, e5, ?_⟩
            rw [if_pos (List.take_zero ..), List.append_nil]
            exact l5
          · refine ifT (decide_eq_true (by omega)) ?_
            have hne : i.kids.take j ≠ [] := fun e => by
              have := congrArg List.length e
              rw [List.length_take, List.length_nil] at this
              omega
            rw [if_neg hne]
            refine ⟨_, rfl, .inl ⟨rfl, _, sqd e5⟩, (Nat.le_of_ble_eq_true rfl), fun l hl => ?_⟩
            have hat : atI [V.str ",", V.str ",)"] (if o = true then 1 else 0) = some (V.str (cc o).str) := by
              cases o
              · exact atI0
              · exact atI1
            have e6 := same_new hl (.lst [V.str ",", V.str ",)"]) _ _ e5
            refine ⟨_, rfl, .inr ⟨o, rfl, _, _, _, _, rfl, rfl, sqd upd_same, hat, (Nat.le_of_ble_eq_true rfl), fun t ht => ?_⟩⟩
            refine ⟨q, _, _, rfl, rfl, same_new ht _ _ _ e6, ?_, ?_⟩
            · rw [List.length_append]; exact szl' (by simp only [List.length_cons, List.length_nil] at hz5; omega)
            have hl5 := l5.mono (Tp.same (same_new hl (.lst [V.str ",", V.str ",)"])))
            refine ⟨zs ++ [.ref t], rfl, (b5.same (same_new hl _)).add (ys := ys) (zs := []) ht, by rw [upd_same, List.append_assoc], ?_⟩
            exact add_pl e6 ht hl5
        · rintro σ' H6 ⟨zs', rfl, b6, e6, l6⟩
          have hz6 := l6.1
          rw [List.length_append, List.length_append] at hz6
          have hif : (if i.kids.take j = [] then ([] : List (Str × Cd)) else [((("," : Str)), cc o)]).length ≤ 1 := by split <;> simp
          have elp := b6 _ _ nlp e4
          have hs7 := hf'.sz
          have hin6 : ItemIn H6 kj vs[j] := hin.mono (b6.tp eq4)
          have hek : (i.kids.take j).isEmpty = decide (j = 0) := by
            cases j with
            | zero => rfl
            | succ j =>
              cases hkk : i.kids with
              | nil => rw [hkk] at hj2; simp at hj2
              | cons x r => rfl
          have hsz : 10 * kj.sz + (putK o (dp + 1) (i.kids.take j)).length + 3 ≤ 10 * i.sz := by
            have e := sz_eq i
            have hlenK := putK_len (xs := xs) (B := B) hf.nm hf.bd o (dp + 1) (i.kids.take j) fun x hx => kids_ok ho x (List.mem_of_mem_take hx)
            have hszj := szL_take hkj
            omega
          have fin : ∀ H7 zs7, But q H6 H7 → H7 q = some (.lst ((ys ++ zs') ++ zs7)) → PlL H7 zs7 (kj.put (dp + 1) (o && decide (j = 0))) → ∃ (zs : List V) (y7 : Option V), [some (V.ref q), some (.ref a), some (.int (dp : Int)), some (.str (mstr m)), some (.str (cdOf b dp m).str), some (.ref lp), some (.bl o), some (.int (0 + (j : Int)))] = [some (.ref q), some (.ref a), some (.int (dp : Int)), some (.str (mstr m)), some (.str (cdOf b dp m).str), some (.ref lp), some (.bl o), y7] ∧
              But q H4 H7 ∧ H7 q = some (.lst (ys ++ zs)) ∧ PlL H7 zs ([(i.word, cdOf b dp m), ("(", .opn)] ++ putK o (dp + 1) (i.kids.take (j + 1))) := fun H7 zs7 b7 e7 l7 => by
            refine ⟨zs' ++ zs7, _, rfl, b6.trans b7, by rw [e7, List.append_assoc], ?_⟩
            rw [List.take_add_one, hkj]
            show PlL H7 _ (_ ++ putK o (dp + 1) (i.kids.take j ++ [kj]))
            rw [putK_snoc, hek, ← List.append_assoc, ← List.append_assoc]
            exact (l6.mono (b7.tp e6)).app l7
          refine ⟨_, rfl, _, rfl, _, rfl, _, _, _, _, rfl, rfl, sqd elp, by rw [ej0]; exact atI_nat hx, _, rfl, _, _, rfl, rfl, (Nat.le_of_ble_eq_true rfl), fun l hl => ?_⟩
          have b8 : But q H6 (upd H6 l (.lst [V.str "", V.str ")"])) := fun c u _ e => same_new hl _ _ _ e
          have e8 := same_new hl (.lst [V.str "", V.str ")"]) _ _ e6
          have call : ∀ bb : Bool, bb = (o && decide (j = 0)) → ∃ v, atI [V.str "", V.str ")"] (if bb = true then 1 else 0) = some v ∧ v = .str (mstr (o && decide (j = 0))) := fun bb e => by
            rw [← e]
            cases bb
            · exact ⟨_, atI0, rfl⟩
            · exact ⟨_, atI1, rfl⟩
          have call2 : ∀ bb : Bool, bb = (o && decide (j = 0)) → atI [V.str "", V.str ")"] (if bb = true then 1 else 0) = some (.str (mstr (o && decide (j = 0)))) := fun bb e => by
            obtain ⟨v, h1, h2⟩ := call bb e
            rw [h1, h2]
          refine ⟨_, rfl, o, rfl, ?_⟩
          have hlen6 : (ys ++ zs').length + 10 * kj.sz ≤ 100000 := by
            rw [List.length_append]
            simp only [List.length_cons, List.length_nil] at hz6
            omega
          cases o with
          | true =>
            refine iteT ⟨_, rfl, rfl, ?_⟩
            refine .inr ⟨_, rfl, _, _, _, _, rfl, rfl, sqd upd_same, call2 _ ?_, ?_⟩
            · rw [Bool.true_and, ej0]
              exact decide_eq_decide.mpr ⟨fun h => by have := V.int.inj h; omega, fun h => by rw [h] <;> rfl⟩
            exact ⟨q, _, kj, xs, B, b', dp + 1, _, ys ++ zs', rfl, e8, hin6.mono (b8.tp e6), hf', hlen6, fun H7 zs7 b7 e7 l7 => fin H7 zs7 (b8.trans b7) e7 l7⟩
          | false =>
            refine iteF ?_
            refine .inr ⟨_, rfl, _, _, _, _, rfl, rfl, sqd upd_same, call2 _ rfl, ?_⟩
            exact ⟨q, _, kj, xs, B, b', dp + 1, _, ys ++ zs', rfl, e8, hin6.mono (b8.tp e6), hf', hlen6, fun H7 zs7 b7 e7 l7 => fin H7 zs7 (b8.trans b7) e7 l7⟩
      · rintro σ H5 ⟨zs, y7, rfl, b5, e5, l5⟩
        have elk : vs.length = i.kids.length := hk.1
        rw [show ((vs.length : Nat) : Int).toNat = i.kids.length by omega, List.take_length] at l5
        have hz5 := l5.1
        rw [List.length_append] at hz5
        have hp5 := hpl i.kids.length
        rw [List.take_length] at hp5
        have hzl : zs.length ≤ 10 * i.sz + 2 := by simp only [List.length_cons, List.length_nil] at hz5; omega
        have elp := b5 _ _ nlp e4
        have hi5 := hi4.mono (b5.tp eq4)
        have ha5 := b5.tp eq4 _ _ ha4
        refine ⟨fun σ' H6 => ∃ zs' : List V, σ' = [some (.ref q), some (.ref a), some (.int (dp : Int)), some (.str (mstr m)), some (.str (cdOf b dp m).str), some (.ref lp), some (.bl o), y7] ∧
          But q H4 H6 ∧ H6 q = some (.lst (ys ++ zs')) ∧ PlL H6 zs' (([(i.word, cdOf b dp m), ("(", .opn)] ++ putK o (dp + 1) i.kids) ++ i.tailQ), ?_, ?_⟩
        · have hc2 := (word_cls ho).2.2.2.2
          by_cases h2 : i.cls = 2
          · obtain ⟨x, j, k, e14, hj, ej⟩ := hi4.divs h2
            have hkn : k.natAbs < 10 ^ 61 := by
              have hb := hf.bd
              have e60 : (10 : Nat) ^ 61 = 10 * 10 ^ 60 := by decide
              rw [ej] at ho
              cases ho with
              | dm _ _ _ h => omega
            refine' cutP ?f3 ?b3
            case f3 =>
              intro body
              refine ⟨_, rfl, a, _, 0, _, rfl, rfl, sqt ha5, atI0, rfl, _, rfl, ?_⟩
              refine ite2 (fun c => iteT body) (fun c => ?_)
              refine ⟨_, rfl, a, _, 0, _, rfl, rfl, sqt ha5, atI0, rfl, _, rfl, ?_⟩
              refine ite2 (fun c => body) (fun c' => ?_)
              exfalso
              rw [h2] at hc2
              have h := of_decide_eq_true (show decide (i.word ∈ (["div", "mod"] : List Str)) = true from hc2)
              simp only [List.mem_cons, List.not_mem_nil, or_false] at h
              rcases h with h | h
              · exact c (decide_eq_true (by rw [h]))
              · exact c' (decide_eq_true (by rw [h]))
            case b3 =>
              refine ⟨_, rfl, .inl ⟨rfl, _, sqd e5⟩, (Nat.le_of_ble_eq_true rfl), fun t ht => ?_⟩
              refine ⟨q, _, _, rfl, rfl, same_new ht _ _ _ e5, ?_, ?_⟩
              · rw [List.length_append]; exact szl' (by omega)
              have b6 := b5.add (ys := ys) (zs := []) (u := .tup [.str ",", .str ","]) (w := .lst ((ys ++ zs) ++ [.ref t])) ht
              have l6 := add_pl (t := ",") (c := .com) (w := .lst ((ys ++ zs) ++ [.ref t])) e5 ht l5
              have e6 : upd (upd H5 t (.tup [.str ",", .str ","])) q (.lst ((ys ++ zs) ++ [.ref t])) q = some (.lst ((ys ++ zs) ++ [.ref t])) := upd_same
              have l6 : PlL (upd (upd H5 t (.tup [.str ",", .str ","])) q (.lst ((ys ++ zs) ++ [.ref t]))) _ _ := l6
              generalize upd (upd H5 t (.tup [.str ",", .str ","])) q (.lst ((ys ++ zs) ++ [.ref t])) = H6 at b6 l6 e6 ⊢
              have ha6 := b6.tp eq4 _ _ e14
              refine ⟨_, rfl, .inl ⟨rfl, _, sqd e6⟩, _, rfl, a, _, 2, _, rfl, rfl, sqt ha6, atI2, k, rfl, log_ok hkn, (Nat.le_of_ble_eq_true rfl), fun t2 ht2 => ?_⟩
              refine ⟨q, _, _, rfl, rfl, same_new ht2 _ _ _ e6, ?_, ?_⟩
              · rw [List.length_append, List.length_append, List.length_singleton]; exact szl' (by omega)
              refine ⟨zs ++ [.ref t] ++ [.ref t2], rfl, b6.add (ys := ys) (zs := []) ht2, ?_, ?_⟩
              · rw [upd_same, List.append_assoc, List.append_assoc, List.append_assoc]
              · have := add_pl (t := itxt k) (c := .en) (w := .lst ((ys ++ zs) ++ [.ref t] ++ [.ref t2])) e6 ht2 l6
                have et : i.tailQ = [((("," : Str)), Cd.com), (itxt k, Cd.en)] := by rw [ej]; rfl
                have el : (([(i.word, cdOf b dp m), ("(", .opn)] ++ putK o (dp + 1) i.kids) ++ i.tailQ) = (([(i.word, cdOf b dp m), ("(", .opn)] ++ putK o (dp + 1) i.kids) ++ [((("," : Str)), Cd.com)]) ++ [(itxt k, Cd.en)] := by rw [et]; simp
                rw [el]
                exact this
          · have nd : ∀ z ∈ (["div", "mod"] : List Str), decide (V.str i.word = V.str z) = false := fun z hz => by
              rw [strE]
              refine decide_eq_false fun e => ?_
              rw [← e] at hz
              have h3 : wl i.word ["div", "mod"] = true := decide_eq_true hz
              rw [hc2] at h3
              exact h2 (by simpa using h3)
            refine ⟨_, rfl, a, _, 0, _, rfl, rfl, sqt ha5, atI0, rfl, _, rfl, ?_⟩
            refine ifF (nd _ (by decide +kernel)) ?_
            refine ⟨_, rfl, a, _, 0, _, rfl, rfl, sqt ha5, atI0, rfl, _, rfl, ?_⟩
            refine ifF (nd _ (by decide +kernel)) ?_
            refine ⟨zs, rfl, b5, e5, ?_⟩
            have et : i.tailQ = [] := by
              cases i with
              | dm _ _ _ => exact absurd rfl h2
              | _ => rfl
            rw [et, List.append_nil]
            exact l5
        · rintro σ' H6 ⟨zs', rfl, b6, e6, l6⟩
          have elp6 := b6 _ _ nlp e4
          have hz6 := l6.1
          rw [List.length_append, List.length_append] at hz6
          have htq : i.tailQ.length ≤ 2 := by cases i <;> simp [It.tailQ]
          have hlz : (ys ++ zs').length ≤ 10000000 := by
            rw [List.length_append]
            simp only [List.length_cons, List.length_nil] at hz6
            omega
          have done : ∀ (H7 : Hp) (t : Addr), H7 t = none → But q H6 H7 → H7 q = some (.lst (ys ++ zs')) → PlL H7 zs' (([(i.word, cdOf b dp m), ("(", .opn)] ++ putK o (dp + 1) i.kids) ++ i.tailQ) → Q .non (upd (upd H7 t (.tup [.str ")", .str (i.lastC dp).str])) q (.lst ((ys ++ zs') ++ [.ref t]))) := fun H7 t ht b7 e7 l7 => by
            refine g _ (zs' ++ [.ref t]) ((b4.trans (b6.trans b7)).add (ys := ys) (zs := []) ht) (by rw [upd_same, List.append_assoc]) ?_
            rw [put_eq ho h0, tailP_eq h0, ho1]
            have := add_pl (t := ")") (c := i.lastC dp) (w := .lst ((ys ++ zs') ++ [.ref t])) e7 ht l7
            have ee : (i.word, cdOf b dp m) :: (((("(" : Str)), Cd.opn) :: (putK o (dp + 1) i.kids ++ (i.tailQ ++ [((")" : Str), i.lastC dp)]))) = (([(i.word, cdOf b dp m), ("(", .opn)] ++ putK o (dp + 1) i.kids) ++ i.tailQ) ++ [((")" : Str), i.lastC dp)] := by simp
            rw [ee]
            exact this
          refine ⟨_, rfl, o, rfl, ?_⟩
          have last2 : ¬ ((i.cls == 1) = true ∧ i.kids = []) → (cc2 o) = i.lastC dp := fun h => by
            unfold It.lastC cc2
            rw [if_neg h, ho1]
          have els : ¬ ((i.cls == 1) = true ∧ i.kids = []) → ∀ l, H6 l = none → atI [V.str ")", V.str ",)"] (if o = true then 1 else 0) = some (V.str (i.lastC dp).str) := fun h l _ => by
            rw [← last2 h]
            cases o
            · exact atI0
            · exact atI1
          by_cases hno : (i.cls == 1) = true ∧ i.kids = []
          · have hoo : o = true := by rw [← ho1]; exact hno.1
            have hk0 := hno.2
            have ec : i.lastC dp = if 11 < dp then .no true else .te true := by
              unfold It.lastC
              exact if_pos hno
            refine ifT hoo ⟨_, rfl, _, _, rfl, .inl (sqd elp6), rfl, _, rfl, ?_⟩
            refine ifT (decide_eq_true (by rw [elk, hk0] <;> rfl)) ?_
            refine ⟨_, rfl, .inl ⟨rfl, _, sqd e6⟩, (Nat.le_of_ble_eq_true rfl), fun l hl => ?_⟩
            have e7 := same_new hl (.lst [V.str "a condition)", V.str ")"]) _ _ e6
            have hat : atI [V.str "a condition)", V.str ")"] (if decide ((11 : Int) < (dp : Int)) = true then 1 else 0) = some (V.str (i.lastC dp).str) := by
              rw [ec]
              by_cases h11 : 11 < dp
              · rw [if_pos h11]
                rw [if_pos (decide_eq_true (show (11 : Int) < (dp : Int) by omega))]
                exact atI1
              · rw [if_neg h11, if_neg (show ¬ decide ((11 : Int) < (dp : Int)) = true by rw [decide_eq_false (by omega)]; exact Bool.false_ne_true)]
                exact atI0
            refine ⟨_, rfl, _, _, rfl, rfl, .inr ⟨_, rfl, _, _, _, _, rfl, rfl, sqd upd_same, hat, (Nat.le_of_ble_eq_true rfl), fun t ht => ?_⟩⟩
            refine ⟨q, _, _, rfl, rfl, same_new ht _ _ _ e7, szl' hlz, ?_⟩
            exact done _ t ht (fun c u _ e => same_new hl _ _ _ e) e7 (l6.mono (Tp.same (same_new hl _)))
          refine' cutP ?f4 ?b4
          case f4 =>
            intro body
            by_cases hoo : o = true
            · refine ifT hoo ⟨_, rfl, _, _, rfl, .inl (sqd elp6), rfl, _, rfl, ?_⟩
              have hk0 : i.kids ≠ [] := fun h => hno ⟨by rw [ho1]; exact hoo, h⟩
              refine ifF (decide_eq_false fun e => hk0 (List.length_eq_zero_iff.mp (by have := V.int.inj e; omega))) body
            · exact ifF (by simpa using hoo) body
          case b4 =>
            refine ⟨_, rfl, .inl ⟨rfl, _, sqd e6⟩, (Nat.le_of_ble_eq_true rfl), fun l hl => ?_⟩
            have e7 := same_new hl (.lst [V.str ")", V.str ",)"]) _ _ e6
            refine ⟨_, rfl, .inr ⟨o, rfl, _, _, _, _, rfl, rfl, sqd upd_same, els hno l hl, (Nat.le_of_ble_eq_true rfl), fun t ht => ?_⟩⟩
            refine ⟨q, _, _, rfl, rfl, same_new ht _ _ _ e7, szl' hlz, ?_⟩
            exact done _ t ht (fun c u _ e => same_new hl _ _ _ e) e7 (l6.mono (Tp.same (same_new hl _)))
end
end NL

namespace NL
open PySem PySem.Spec PyProof.Rows L2
/-! ### what the reader takes at a place -/
def ekeys : List Str := ["add", "sub", "mul", "div", "mod", "min", "max", "abs", "if"]
theorem ekeys_eq : rows_EXPRESSION_PARTS.map (·.1) = ekeys := rfl
def acc : Cd → Str → Prop
  | .ex c, u => isI u = true ∨ isN u = true ∨ u ∈ ekeys ∨ (c = true ∧ u = ")")
  | .te c, u => u ∈ tests ∨ (c = true ∧ u = ")")
  | .no c, u => c = true ∧ u = ")"
  | .opn, u => u = "("
  | .com, u => u = ","
  | .comc, u => u = "," ∨ u = ")"
  | .en, u => isI u = true ∧ 1 ≤ ival u
  | .fin, u => u = ""
/-- what is taken nowhere (but at the end) -/
structure Nev (u : Str) : Prop where
  i : isI u = false
  n : isN u = false
  r : u ∉ res
  o : u ≠ "("
  c : u ≠ ")"
  k : u ≠ ","
theorem ek_res : ∀ z ∈ ekeys, z ∈ res := by decide +kernel
theorem te_res : ∀ z ∈ tests, z ∈ res := by decide +kernel
theorem Nev.acc {u : Str} (h : Nev u) {c : Cd} (hc : c ≠ .fin) : ¬ NL.acc c u := fun g => by
  cases c with
  | ex m => 
    rcases g with g | g | g | ⟨_, g⟩
    · rw [h.i] at g; cases g
    · rw [h.n] at g; cases g
    · exact h.r (ek_res _ g)
    · exact h.c g
  | te m =>
    rcases g with g | ⟨_, g⟩
    · exact h.r (te_res _ g)
    · exact h.c g
  | no m => exact h.c g.2
  | opn => exact h.o g
  | com => exact h.k g
  | comc => exact g.elim h.k h.c
  | en =>
    have := g.1
    rw [h.i] at this; cases this
  | fin => exact hc rfl
theorem acc_fin {u : Str} : acc .fin u ↔ u = "" := Iff.rfl
def pnB : Cd → Str → Bool
  | .ex c, u => c && decide (u = ")")
  | .te c, u => c && decide (u = ")")
  | .no c, u => c && decide (u = ")")
  | .opn, u => decide (u = "(")
  | .com, u => decide (u = ",")
  | .comc, u => decide (u = ",") || decide (u = ")")
  | .en, _ => false
  | .fin, _ => false
theorem pn_facts : ∀ u ∈ (["(", ")", ","] : List Str), isI u = false ∧ isN u = false ∧ u ∉ ekeys ∧ u ∉ tests ∧ u ≠ "" := by decide +kernel
theorem pn_acc {u : Str} (h : u ∈ (["(", ")", ","] : List Str)) (c : Cd) : pnB c u = true ↔ acc c u := by
  obtain ⟨f1, f2, f3, f4, f5⟩ := pn_facts u h
  cases c <;> simp [pnB, acc, f1, f2, f3, f4, f5]
theorem pn_occ : ∀ u ∈ (["(", ")", ","] : List Str), ∀ c ∈ ([.ex true, .ex false, .te true, .te false, .no true, .no false, .opn, .com, .comc, .en, .fin] : List Cd), (!(Builtin.Str.occurrences c.str u 0 c.str.length 1).isEmpty) = pnB c u := by decide +kernel
theorem all_cd (c : Cd) : c ∈ ([.ex true, .ex false, .te true, .te false, .no true, .no false, .opn, .com, .comc, .en, .fin] : List Cd) := by
  cases c with
  | ex c => cases c <;> simp
  | te c => cases c <;> simp
  | no c => cases c <;> simp
  | _ => simp
def exB : Cd → Bool
  | .ex _ => true
  | _ => false
def teB : Cd → Bool
  | .te _ => true
  | _ => false
def enB : Cd → Bool
  | .en => true
  | _ => false
theorem ex_occ : ∀ c ∈ ([.ex true, .ex false, .te true, .te false, .no true, .no false, .opn, .com, .comc, .en, .fin] : List Cd), (!(Builtin.Str.occurrences c.str "expression" 0 c.str.length 1).isEmpty) = exB c ∧ (!(Builtin.Str.occurrences c.str "condition" 0 c.str.length 1).isEmpty) = teB c ∧ decide (c.str = "an n") = enB c := by decide +kernel
/-- tokens that the law draws on -/
def Prp (u : Str) : Prop := Pn u ∨ (tl u ≠ [] ∧ Wd u) ∨ ∃ n : Int, u = itxt n ∧ n.natAbs < 10 ^ 60
theorem uni_low : ∀ c ∈ lets, Unicode.isLower c = true ∧ (Unicode.isUpper c || Unicode.isTitle c) = false ∧ Unicode.isAlpha c = true := by decide +kernel
theorem uni_dig : ∀ c ∈ digs, Unicode.isDigit c = true ∧ Unicode.isAlpha c = false := by decide +kernel
theorem uni_min : Unicode.isAlpha 45 = false := by decide +kernel
theorem low_wd {u : Str} (h : Wd u) (h0 : tl u ≠ []) : Txt.islower u = true ∧ Txt.isalpha u = true := by
  obtain ⟨c, r, e⟩ : ∃ c r, tl u = c :: r := by
    cases e : tl u with
    | nil => exact absurd e h0
    | cons a b => exact ⟨a, b, rfl⟩
  have hin : ∀ x ∈ u.cps.toList, x ∈ lets := fun x hx => in_lets.mpr (h x hx)
  have hc : c ∈ u.cps.toList := by show c ∈ tl u; rw [e]; exact List.mem_cons_self
  have hl : u.length = r.length + 1 := by rw [← tl_len, e, List.length_cons]
  refine ⟨?_, ?_⟩
  · unfold Txt.islower
    rw [← Array.any_toList, ← Array.any_toList]
    have h1 : u.cps.toList.any Unicode.isLower = true := List.any_eq_true.mpr ⟨c, hc, (uni_low c (hin c hc)).1⟩
    have h2 : (u.cps.toList.any fun c => Unicode.isUpper c || Unicode.isTitle c) = false := by
      rw [List.any_eq_false]
      intro x hx
      rw [(uni_low x (hin x hx)).2.1]
      exact Bool.false_ne_true
    rw [h1, h2]
    rfl
  · unfold Txt.isalpha
    rw [← Array.all_toList, decide_eq_true (show u.length > 0 by omega), Bool.true_and]
    exact List.all_eq_true.mpr fun x hx => (uni_low x (hin x hx)).2.2
theorem alpha_num {u : Str} {c : Nat} {r : List Nat} (e : tl u = c :: r) (hc : Unicode.isAlpha c = false) : Txt.isalpha u = false := by
  unfold Txt.isalpha
  rw [← Array.all_toList]
  have : u.cps.toList.all Unicode.isAlpha = false := by
    rw [List.all_eq_false]
    exact ⟨c, by show c ∈ tl u; rw [e]; exact List.mem_cons_self, by rw [hc]; exact Bool.false_ne_true⟩
  rw [this, Bool.and_false]
theorem dig_all {u : Str} (h0 : tl u ≠ []) (h : ∀ c ∈ tl u, c ∈ digs) : Txt.isdigit u = true := by
  unfold Txt.isdigit
  have hl : 0 < (tl u).length := List.length_pos_iff.mpr h0
  rw [tl_len] at hl
  rw [← Array.all_toList, decide_eq_true (show u.length > 0 by omega), Bool.true_and]
  exact List.all_eq_true.mpr fun x hx => (uni_dig x (h x hx)).1
theorem cut_from {z : Str} {k : Nat} (h : k ≤ z.length) : tl (cutS z (some (k : Int)) none) = (tl z).drop k := by
  unfold cutS
  rw [show HT.sIx z.length 0 (some (k : Int)) = min k z.length from HT.sIx_nat _ _ _, Nat.min_eq_left h]
  show ((tl z).drop k).take (HT.sIx z.length z.length none - k) = _
  rw [show HT.sIx z.length z.length none = z.length from rfl, List.take_of_length_le]
  rw [List.length_drop, tl_len]
  exact Nat.le_refl _
theorem cut_one {z : Str} : tl (cutS z none (some 1)) = (tl z).take 1 := by
  unfold cutS
  rw [show HT.sIx z.length z.length (some 1) = min 1 z.length from HT.sIx_nat _ 1 _]
  show ((tl z).drop 0).take (min 1 z.length - 0) = _
  rw [List.drop_zero, Nat.sub_zero, ← tl_len]
  cases tl z with
  | nil => rfl
  | cons a b => rw [List.length_cons, Nat.min_eq_left (by omega)]
/-- the digits of an int's text -/
theorem itxt_parts (n : Int) (h : n.natAbs < 10 ^ 60) : ∃ (k : Nat), ((n < 0 ∧ k = 1) ∨ (0 ≤ n ∧ k = 0)) ∧ (tl (itxt n)).drop k = TL.numL n.natAbs ∧ (k = 1 → ∃ r, tl (itxt n) = 45 :: r) ∧ (TL.numL n.natAbs).length ≤ 60 := by
  rcases int_two n with ⟨m, rfl⟩ | ⟨m, rfl⟩
  · exact ⟨0, .inr ⟨by omega, rfl⟩, by rw [itxt_nat]; rfl, fun h => by omega, TL.numL_len (by decide) (by omega)⟩
  · refine ⟨1, .inl ⟨by omega, rfl⟩, ?_, fun _ => ⟨_, itxt_neg m⟩, TL.numL_len (by decide) (by omega)⟩
    rw [itxt_neg, show (-((m : Int) + 1)).natAbs = m + 1 by omega]
    rfl
section
variable {P : Program} {w : World} {K : PySem.W.Frag} {mg : Str → Option Value} {base : Heap}
/-! ### _law_fits -/
def spFits : Sp := fun vs H Q _ => ∃ (u : Str) (c : Cd), vs = [.str u, .str c.str] ∧ Prp u ∧ u.length ≤ 300 ∧ ∀ b H', Same H H' → (b = true ↔ acc c u) → Q (.bl b) H'
theorem ok_law_fits (T : Txt K mg) : FnOk P w K mg base CX0 1 T.a_law_fits T.d_law_fits P_law_fits spFits := by
  refine T.F_law_fits.ok sc_law_fits (fun vs H Q E h => ?_) (fun cdv A outer s H vs Q E hr h => ?_)
  · obtain ⟨u, c, rfl, _⟩ := h
    rfl
  obtain ⟨u, c, rfl, hu, hul, q⟩ := h
  refine ⟨_, (pss_cons (ps_if (PW.pt (pw_or (pt_cmpR op_eq (pv 0) pe_str (nomark _)) (pw_or (pt_cmpR op_eq (pv 0) pe_str (nomark _)) (pw_or1 (pt_cmpR op_eq (pv 0) pe_str (nomark _))))))
    (pss_one (ps_ret (pe_cmpR op_in_str (pv 0) (pv 1) (by rfl))))
    pss_nil)
    (pss_cons (ps_if (PW.pt (pw_and (pt_val (pe_bm0 PySem.F.plainAttrs_str PySem.F.slot_str_islower PySem.F.type_str_islower mt_islower (pv 0))) (pw_and1 (pt_val (pe_bm0 PySem.F.plainAttrs_str PySem.F.slot_str_isalpha PySem.F.type_str_isalpha mt_isalpha (pv 0))))))
    (pss_cons (ps_if (pt_cmpR op_in_str pe_str (pv 1) (by rfl))
    (pss_one (ps_ret (pe_cmpR op_notIn_seq (pv 0) (pe_lst (pa_cons pe_str (pa_cons pe_str (pa_cons pe_str (pa_cons pe_str (pa_cons pe_str (pa_cons pe_str (pa_cons pe_str pa_nil)))))))) (by rfl))))
    pss_nil)
    (pss_one (ps_ret (pe_and (pe_cmpR op_in_str pe_str (pv 1) (by rfl)) (pe_one (pe_cmpR op_in_seq (pv 0) (pe_lst (pa_cons pe_str (pa_cons pe_str (pa_cons pe_str (pa_cons pe_str (pa_cons pe_str (pa_cons pe_str (pa_cons pe_str pa_nil)))))))) (by rfl)))))))
    pss_nil)
    (pss_cons (ps_set (i := 2) sc_law_fits.nd rfl (Or.inl rfl) (pe_slice sl_str (pv 0) (po_some (pe_callTy call_int1 (by rfl) T.z_int (by decide +kernel) (pa_cons (pe_cmpR op_eq (pe_slice sl_str (pv 0) po_none (po_some pe_int)) pe_str (nomark _)) pa_nil))) po_none))
    (pss_cons (ps_if (PW.pt (pw_or (pt_not (pt_val (pe_bm0 PySem.F.plainAttrs_str PySem.F.slot_str_isdigit PySem.F.type_str_isdigit mt_isdigit (pv 2)))) (pw_or (pt_cmpR op_gt (pe_callB call_len_str (by rfl) T.z_len PySem.boot_len (pa_cons (pv 2) pa_nil)) pe_int (nomark _)) (pw_or1 (PW.pt (pw_and (pt_cmpR op_eq (pe_ix ix_str (pv 2) pe_int (fun _ _ => rfl)) pe_str (nomark _)) (pw_and1 (PW.pt (pw_or (pt_cmpR op_gt (pe_callB call_len_str (by rfl) T.z_len PySem.boot_len (pa_cons (pv 2) pa_nil)) pe_int (nomark _)) (pw_or1 (pt_cmpR op_eq (pe_ix ix_str (pv 0) pe_int (fun _ _ => rfl)) pe_str (nomark _))))))))))))
    (pss_one (ps_ret pe_bl))
    pss_nil)
    (pss_one (ps_ret (pe_or (pe_cmpR op_in_str pe_str (pv 1) (by rfl)) (pe_one (pe_and (pe_cmpR op_eq (pv 1) pe_str (nomark _)) (pe_and (pe_cmpR op_ne (pe_ix ix_str (pv 0) pe_int (fun _ _ => rfl)) pe_str (nomark _)) (pe_one (pe_cmpR op_ne (pv 2) pe_str (nomark _))))))))))))), ?_⟩
  have hcm := all_cd c
  obtain ⟨o1, o2, o3⟩ := ex_occ c hcm
  by_cases hp : u ∈ (["(", ")", ","] : List Str)
  · refine' cutP ?f ?b
    case f =>
      intro body
      refine ⟨_, rfl, rfl, _, rfl, ?_⟩
      refine ite2 (fun c => iteT body) (fun c1 => ?_)
      refine ⟨_, rfl, rfl, _, rfl, ?_⟩
      refine ite2 (fun c => iteT body) (fun c2 => ?_)
      refine ⟨_, rfl, rfl, _, rfl, ?_⟩
      refine ite2 (fun c => body) (fun c3 => ?_)
      exfalso
      simp only [List.mem_cons, List.not_mem_nil, or_false] at hp
      rcases hp with h | h | h
      · exact c1 (decide_eq_true (by rw [h]))
      · exact c2 (decide_eq_true (by rw [h]))
      · exact c3 (decide_eq_true (by rw [h]))
    case b =>
      refine ⟨_, rfl, _, rfl, _, _, rfl, rfl, q _ H (Same.refl H) ?_⟩
      rw [pn_occ u hp c hcm]
      exact pn_acc hp c
  have np : ∀ z ∈ (["(", ")", ","] : List Str), decide (V.str u = V.str z) = false := fun z hz => by
    rw [strE]
    exact decide_eq_false fun e => hp (by rw [e]; exact hz)
  refine ⟨_, rfl, rfl, _, rfl, ?_⟩
  refine ifF (np _ (by decide +kernel)) ?_
  refine ⟨_, rfl, rfl, _, rfl, ?_⟩
  refine ifF (np _ (by decide +kernel)) ?_
  refine ⟨_, rfl, rfl, _, rfl, ?_⟩
  refine ifF (np _ (by decide +kernel)) ?_
  have hpn : ¬ Pn u := fun h => hp (by rcases h with h | h | h <;> rw [h] <;> decide +kernel)
  have hcc : u ≠ ")" := fun e => hpn (by rw [e]; exact pn_c)
  have hoo : u ≠ "(" := fun e => hpn (by rw [e]; exact pn_o)
  have hkk : u ≠ "," := fun e => hpn (by rw [e]; exact pn_k)
  have f1 : u ∈ tests ↔ u ∈ (["true", "false", "less", "equal", "not", "all", "any"] : List Str) := Iff.rfl
  rcases hu.resolve_left hpn with ⟨h0, hw⟩ | ⟨n, rfl, hn⟩
  · obtain ⟨g1, g2⟩ := low_wd hw h0
    refine ⟨_, rfl, rfl, u, rfl, rfl, trivial, _, rfl, ?_⟩
    refine ifT g1 ?_
    refine ⟨_, rfl, rfl, u, rfl, rfl, trivial, _, rfl, ?_⟩
    refine ifT g2 ?_
    refine ⟨_, rfl, _, _, rfl, rfl, _, rfl, ?_⟩
    have hI := isI_wd hw h0
    have hN : isN u = true ↔ u ∉ res := by
      unfold isN
      have h1 : u ≠ "" := fun e => h0 (tl_nil.mpr e)
      rw [decide_eq_true h1, rn_all (l := tl u) (fun c hc => in_lets.mpr (hw c hc)), decide_eq_true (rfl : (tl u).length = _), Bool.true_and, Bool.and_true]
      exact decide_eq_true_iff
    have hE : (isI u = true ∨ isN u = true ∨ u ∈ ekeys) ↔ u ∉ tests := by
      rw [hI, hN]
      have hre : u ∈ res ↔ u ∈ ekeys ∨ u ∈ tests := by
        unfold res ekeys tests
        simp only [List.mem_cons, List.not_mem_nil, or_false]
        constructor
        · rintro (h | h | h | h | h | h | h | h | h | h | h | h | h | h | h | h) <;> simp [h]
        · rintro ((h | h | h | h | h | h | h | h | h) | (h | h | h | h | h | h | h)) <;> simp [h]
      have hdis : ∀ z ∈ ekeys, z ∉ tests := by decide +kernel
      constructor
      · rintro (h | h | h)
        · cases h
        · exact fun g => h (hre.mpr (.inr g))
        · exact hdis u h
      · intro h
        by_cases hr : u ∈ res
        · exact .inr (.inr ((hre.mp hr).resolve_right h))
        · exact .inr (.inl hr)
    by_cases hex : exB c = true
    · refine ifT (o1.trans hex) ?_
      refine ⟨_, rfl, (Nat.le_of_ble_eq_true rfl), fun p hpp => ?_⟩
      refine ⟨p, _, rfl, .inl (sqd upd_same), rfl, by decide +kernel, ?_⟩
      refine q _ _ (same_new hpp _) ?_
      cases c with
      | ex m =>
        rw [show (if true = true then !inV (V.str u) [V.str "true", V.str "false", V.str "less", V.str "equal", V.str "not", V.str "all", V.str "any"] else inV (V.str u) [V.str "true", V.str "false", V.str "less", V.str "equal", V.str "not", V.str "all", V.str "any"]) = !decide (u ∈ tests) from by rw [if_pos rfl]; exact congrArg (fun b => !b) (inV_str (ys := tests))]
        show _ ↔ (isI u = true ∨ isN u = true ∨ u ∈ ekeys ∨ (m = true ∧ u = ")"))
        constructor
        · intro h
          have h : ¬ u ∈ tests := by simpa using h
          rcases hE.mpr h with g | g | g
          · exact .inl g
          · exact .inr (.inl g)
          · exact .inr (.inr (.inl g))
        · rintro (g | g | g | ⟨_, g⟩)
          · simpa using hE.mp (.inl g)
          · simpa using hE.mp (.inr (.inl g))
          · simpa using hE.mp (.inr (.inr g))
          · exact absurd g hcc
      | _ => cases hex
    · refine ifF (o1.trans (by simpa using hex)) ?_
      refine ⟨_, rfl, _, _, rfl, rfl, _, rfl, ?_⟩
      have nofin : u ≠ "" := fun e => h0 (tl_nil.mpr e)
      by_cases hte : teB c = true
      · refine ifT (o2.trans hte) ?_
        refine ⟨_, rfl, (Nat.le_of_ble_eq_true rfl), fun p hpp => ?_⟩
        refine ⟨p, _, rfl, .inl (sqd upd_same), rfl, by decide +kernel, ?_⟩
        refine q _ _ (same_new hpp _) ?_
        cases c with
        | te m =>
          rw [show (if false = true then !inV (V.str u) [V.str "true", V.str "false", V.str "less", V.str "equal", V.str "not", V.str "all", V.str "any"] else inV (V.str u) [V.str "true", V.str "false", V.str "less", V.str "equal", V.str "not", V.str "all", V.str "any"]) = decide (u ∈ tests) from by rw [if_neg Bool.false_ne_true]; exact inV_str (ys := tests)]
          show _ ↔ (u ∈ tests ∨ (m = true ∧ u = ")"))
          rw [decide_eq_true_iff]
          exact ⟨.inl, fun h => h.elim id fun h => absurd h.2 hcc⟩
        | _ => cases hte
      · refine ifF (o2.trans (by simpa using hte)) ?_
        refine q _ H (Same.refl H) ?_
        refine ⟨fun h => absurd h Bool.false_ne_true, fun h => ?_⟩
        exfalso
        cases c with
        | ex m => exact hex rfl
        | te m => exact hte rfl
        | no m => exact hcc h.2
        | opn => exact hoo h
        | com => exact hkk h
        | comc => exact h.elim hkk hcc
        | en => have := h.1; rw [hI] at this; cases this
        | fin => exact nofin h
  · obtain ⟨k, hk, hd, hm, hdl⟩ := itxt_parts n hn
    have hz0 : TL.numL n.natAbs ≠ [] := TL.numL_ne _
    have hul' : (itxt n).length ≤ sizeLine := szl (by omega)
    have hkl : k ≤ (itxt n).length := by
      refine Nat.le_of_not_lt fun h => hz0 ?_
      rw [← hd]
      exact List.drop_eq_nil_of_le (by rw [tl_len]; omega)
    have hal : Txt.isalpha (itxt n) = false := by
      obtain ⟨c0, r0, e0, hc0, _⟩ := itxt_num n
      refine alpha_num e0 ?_
      rcases hc0 with h | h
      · rw [h]; exact uni_min
      · exact (uni_dig _ h).2
    refine' cutP ?f9 ?b9
    case f9 =>
      intro body
      refine ⟨_, rfl, rfl, _, rfl, rfl, trivial, _, rfl, ?_⟩
      refine ite2 (fun c1 => ?_) (fun c1 => iteF body)
      refine ⟨_, rfl, rfl, _, rfl, rfl, trivial, _, rfl, ?_⟩
      exact ifF hal body
    case b9 =>
      refine ⟨_, rfl, _, rfl, _, rfl, _, rfl, hul', rfl, ?_⟩
      have hI := isI_itxt hn
      have t45 : tl ("-" : Str) = [45] := by decide +kernel
      have ek : (if decide (V.str (cutS (itxt n) none (some 1)) = V.str "-") = true then (1 : Int) else 0) = (k : Int) := by
        rw [strE]
        rcases hk with ⟨h1, h2⟩ | ⟨h1, h2⟩
        · obtain ⟨r, e⟩ := hm h2
          have : cutS (itxt n) none (some 1) = "-" := str_ext (by show tl _ = tl _; rw [cut_one, e, t45]; rfl)
          rw [if_pos (decide_eq_true this), h2]
          rfl
        · have : cutS (itxt n) none (some 1) ≠ "-" := fun h => by
            have h := congrArg tl h
            rw [cut_one, t45] at h
            rw [h2, List.drop_zero] at hd
            rw [hd] at h
            obtain ⟨c0, r0, e0⟩ : ∃ c0 r0, TL.numL n.natAbs = c0 :: r0 := by
              cases e : TL.numL n.natAbs with
              | nil => exact absurd e hz0
              | cons a b => exact ⟨a, b, rfl⟩
            rw [e0] at h
            have hh : c0 = 45 := by simpa using h
            have := in_digs.mp (numL_digs (m := n.natAbs) c0 (by rw [e0]; exact List.mem_cons_self))
            omega
          rw [if_neg (by rw [decide_eq_false this]; exact Bool.false_ne_true), h2]
          rfl
      refine .inr ⟨_, rfl, _, rfl, _, rfl, hul', ?_⟩
      have htd : tl (cutS (itxt n) (some (if decide (V.str (cutS (itxt n) none (some 1)) = V.str "-") = true then (1 : Int) else 0)) none) = TL.numL n.natAbs := by
        rw [ek, cut_from hkl, hd]
      generalize cutS (itxt n) (some (if decide (V.str (cutS (itxt n) none (some 1)) = V.str "-") = true then (1 : Int) else 0)) none = d at htd ⊢
      have hdlen : d.length ≤ 60 := by rw [← tl_len, htd]; exact hdl
      have hdg : Txt.isdigit d = true := dig_all (by rw [htd]; exact hz0) (by rw [htd]; exact numL_digs)
      refine ⟨_, rfl, rfl, d, rfl, rfl, trivial, _, rfl, ?_⟩
      refine ifF (by rw [hdg] <;> rfl) ?_
      refine ⟨_, rfl, d, rfl, szl (by omega), _, _, rfl, rfl, _, rfl, ?_⟩
      refine ifF (decide_eq_false (by omega)) ?_
      obtain ⟨c0, r0, e0⟩ : ∃ c0 r0, TL.numL n.natAbs = c0 :: r0 := by
        cases e : TL.numL n.natAbs with
        | nil => exact absurd e hz0
        | cons a b => exact ⟨a, b, rfl⟩
      have hat : atI d.cps.toList 0 = some c0 := by
        show atI (tl d) 0 = some c0
        rw [htd, e0]
        exact atI0
      obtain ⟨x0, y0, f0, -⟩ := itxt_num n
      have hat2 : atI (itxt n).cps.toList 0 = some x0 := by
        show atI (tl (itxt n)) 0 = some x0
        rw [f0]
        exact atI0
      have e48 : ("0" : Str) = ⟨#[48]⟩ := by decide +kernel
      have e45 : ("-" : Str) = ⟨#[45]⟩ := by decide +kernel
      have t48 : tl ("0" : Str) = [48] := by decide +kernel
      have x45 : x0 = 45 ↔ n < 0 := by
        constructor
        · intro h
          rcases hk with ⟨h1, _⟩ | ⟨h1, h2⟩
          · exact h1
          · rw [h2, List.drop_zero, f0] at hd
            have := in_digs.mp (numL_digs (m := n.natAbs) x0 (by rw [← hd]; exact List.mem_cons_self))
            omega
        · intro h
          rcases hk with ⟨_, h2⟩ | ⟨h1, _⟩
          · obtain ⟨r, e⟩ := hm h2
            rw [f0] at e
            cases e; rfl
          · omega
      have z0 : n.natAbs = 0 → TL.numL n.natAbs = [48] := fun h => by rw [h]; decide +kernel
      have d0 : d = "0" ↔ n = 0 := by
        constructor
        · intro h
          rw [h, t48] at htd
          have hv := TL.numL_val n.natAbs
          rw [← htd] at hv
          have : NumText.digitsVal [48] = 0 := rfl
          omega
        · intro h
          refine str_ext ?_
          show tl d = tl _
          rw [htd, t48]
          exact z0 (by omega)
      have hds : d.length ≤ sizeLine := szl (by omega)
      refine' cutP ?f8 ?b8
      case f8 =>
        intro body
        refine ⟨_, rfl, _, _, c0, rfl, rfl, hds, hat, rfl, _, rfl, ?_⟩
        refine ite2 (fun c1 => ?_) (fun c1 => iteF body)
        rw [e48] at c1
        have h48 : c0 = 48 := one_str.mp (of_decide_eq_true c1)
        have hn0 : n.natAbs = 0 := by
          refine Decidable.byContradiction fun h => ?_
          obtain ⟨c, r, e, hc⟩ := numL_head n.natAbs (by omega)
          rw [e0] at e
          cases e
          exact hc h48
        have hlen1 : d.length = 1 := by rw [← tl_len, htd, z0 hn0] <;> rfl
        refine ⟨_, rfl, d, rfl, hds, _, _, rfl, rfl, _, rfl, ?_⟩
        refine ifF (decide_eq_false (by omega)) ?_
        refine ⟨_, rfl, _, _, x0, rfl, rfl, hul', hat2, rfl, _, rfl, ?_⟩
        refine ifF ?_ body
        rw [e45]
        refine decide_eq_false fun h => ?_
        have := x45.mp (one_str.mp h)
        omega
      case b8 =>
        refine ⟨_, rfl, _, _, rfl, rfl, _, rfl, ?_⟩
        have notest : ∀ z ∈ tests, itxt n ≠ z := by
          have : ∀ z ∈ tests, isI z = false := by decide +kernel
          intro z hz e
          rw [e, this z hz] at hI
          cases hI
        have nnil : itxt n ≠ "" := fun e => by rw [e, isI_nil] at hI; cases hI
        by_cases hex : exB c = true
        · refine ifT (o1.trans hex) (q true H (Same.refl H) ⟨fun _ => ?_, fun _ => rfl⟩)
          cases c with
          | ex m => exact .inl hI
          | _ => cases hex
        refine ifF (o1.trans (by simpa using hex)) ?_
        by_cases hen : enB c = true
        · have hcs : decide (V.str c.str = V.str ("an n" : Str)) = true := by rw [strE]; exact o3.trans hen
          refine ⟨_, rfl, rfl, _, rfl, ?_⟩
          refine ifT hcs ?_
          refine ⟨_, rfl, _, _, x0, rfl, rfl, hul', hat2, rfl, _, rfl, ?_⟩
          rw [e45]
          cases c with
          | en =>
            have hv := ival_itxt hn
            refine ite2 (fun c1 => ?_) (fun c1 => ?_)
            · refine ⟨_, rfl, rfl, ?_⟩
              refine q _ H (Same.refl H) ?_
              show (!decide (V.str d = V.str "0")) = true ↔ (isI (itxt n) = true ∧ 1 ≤ ival (itxt n))
              rw [strE, hv]
              have c1 : ¬ x0 = 45 := fun h => by
                rw [h, decide_eq_true rfl] at c1
                cases c1
              have hnn : ¬ n < 0 := fun h => c1 (x45.mpr h)
              constructor
              · intro h
                have h : ¬ d = "0" := by simpa using h
                have : n ≠ 0 := fun e => h (d0.mpr e)
                exact ⟨hI, by omega⟩
              · rintro ⟨_, h⟩
                have : ¬ d = "0" := fun e => by have := d0.mp e; omega
                simpa using this
            · refine q _ H (Same.refl H) ⟨fun h => absurd h Bool.false_ne_true, fun h => ?_⟩
              have h2 := h.2
              rw [hv] at h2
              exfalso
              refine c1 ?_
              rw [decide_eq_false (fun h => by have := x45.mp (one_str.mp h); omega)]
              rfl
          | _ => cases hen
        · have hcs : decide (V.str c.str = V.str ("an n" : Str)) = false := by rw [strE]; exact o3.trans (by simpa using hen)
          refine ⟨_, rfl, rfl, _, rfl, ?_⟩
          refine ifF hcs ?_
          refine q _ H (Same.refl H) ⟨fun h => absurd h Bool.false_ne_true, fun h => ?_⟩
          exfalso
          cases c with
          | ex m => exact hex rfl
          | te m => exact h.elim (fun h => notest _ h rfl) fun h => hcc h.2
          | no m => exact hcc h.2
          | opn => exact hoo h
          | com => exact hkk h
          | comc => exact h.elim hkk hcc
          | en => exact hen rfl
          | fin => exact nnil h
end
end NL

namespace NL
open PySem PySem.Spec PyProof.Rows L2
/-! ### tokens that fit nowhere -/
def EndR (rest : List Nat) : Prop := rest = [] ∨ ∃ r, rest = 32 :: r
structure BadTk (u : Str) : Prop where
  hd : ∃ x y, tl u = x :: y ∧ x ≠ 32
  ln : u.length ≤ 300
  pc : ∀ rest, EndR rest → pieceOf (tl u ++ rest) ≠ "" ∧ Nev (pieceOf (tl u ++ rest))
structure Mis (c : Cd) (u : Str) : Prop where
  hd : ∃ x y, tl u = x :: y ∧ x ≠ 32
  ln : u.length ≤ 300
  pc : ∀ rest, EndR rest → pieceOf (tl u ++ rest) ≠ "" ∧ ¬ acc c (pieceOf (tl u ++ rest))
theorem BadTk.mis {u : Str} (h : BadTk u) (c : Cd) : Mis c u := ⟨h.hd, h.ln, fun rest he => ⟨(h.pc rest he).1, fun g => by
  by_cases hc : c = .fin
  · subst hc
    exact (h.pc rest he).1 g
  · exact (h.pc rest he).2.acc hc g⟩⟩
theorem end_cut {rest : List Nat} (h : EndR rest) : Cut rest := fun c r e => by
  rcases h with h | ⟨r', h⟩
  · rw [h] at e; cases e
  · rw [h] at e
    cases e
    exact ⟨fun h => by have := in_lets.mp h; omega, fun h => by have := in_digs.mp h; omega⟩
theorem piece_tk {u : Str} (h : Tk u) {rest : List Nat} (he : EndR rest) : pieceOf (tl u ++ rest) = u ∧ ∃ x y, tl u = x :: y ∧ x ≠ 32 := by
  obtain ⟨h1, h2⟩ := pc_sep (Sep.cut h (end_cut he))
  refine ⟨?_, h2⟩
  unfold pieceOf
  rw [h1, ← tl_len, List.take_left]
  exact mk_tl u
theorem prp_tk {u : Str} (h : Prp u) : Tk u := by
  rcases h with h | h | ⟨n, rfl, _⟩
  · exact .inr (.inr h)
  · exact .inl h
  · exact .inr (.inl (itxt_num n))
theorem prp_mis {u : Str} (h : Prp u) (hl : u.length ≤ 300) {c : Cd} (hc : ¬ acc c u) : Mis c u := by
  obtain ⟨h1, h2⟩ := piece_tk (prp_tk h) (rest := []) (.inl rfl)
  refine ⟨h2, hl, fun rest he => ?_⟩
  rw [(piece_tk (prp_tk h) he).1]
  exact ⟨(fun e => by obtain ⟨x, y, e2, _⟩ := h2; rw [e] at e2; cases e2), hc⟩
theorem nev_head {u : Str} {x : Nat} {y : List Nat} (e : tl u = x :: y) (hx : x ∉ lets) (h1 : x ≠ 40) (h2 : x ≠ 41) (h3 : x ≠ 44) (hi : isI u = false) : Nev u := by
  have t : tl ("(" : Str) = [40] ∧ tl (")" : Str) = [41] ∧ tl ("," : Str) = [44] := by decide +kernel
  refine ⟨hi, ?_, fun hr => ?_, fun h => ?_, fun h => ?_, fun h => ?_⟩
  · unfold isN
    rw [e, rn_out hx, decide_eq_false (show ¬ 0 = (x :: y).length by rw [List.length_cons]; omega), Bool.and_false, Bool.and_false]
  · have := (res_wd u hr).1 x (by show x ∈ tl u; rw [e]; exact List.mem_cons_self)
    exact hx (in_lets.mpr this)
  · rw [h, t.1] at e; cases e; exact h1 rfl
  · rw [h, t.2.1] at e; cases e; exact h2 rfl
  · rw [h, t.2.2] at e; cases e; exact h3 rfl
theorem bad_num {u : Str} (h : NumT u) (hi : isI u = false) (hl : u.length ≤ 300) : BadTk u := by
  obtain ⟨x, y, e, hx, hy⟩ := id h
  have hxl : x ∉ lets := fun g => by
    have := in_lets.mp g
    rcases hx with hx | hx
    · omega
    · have := in_digs.mp hx; omega
  have hb : x = 45 ∨ (48 ≤ x ∧ x ≤ 57) := hx.imp id in_digs.mp
  refine ⟨⟨x, y, e, by omega⟩, hl, fun rest he => ?_⟩
  rw [(piece_tk (.inr (.inl h)) he).1]
  exact ⟨(fun e2 => by rw [e2] at e; cases e), nev_head e hxl (by omega) (by omega) (by omega) hi⟩
theorem piece1 {c : Nat} {r : List Nat} (h1 : c ∉ lets) (h2 : (c ∉ digs ∧ c ≠ 45) ∨ (c = 45 ∧ headN digs r)) : pieceOf (c :: r) = ⟨#[c]⟩ := by
  have e : pc (c :: r) = 1 := by
    show (if c ∈ lets then rn lets (c :: r) else if c ∈ digs ∨ c = 45 then 1 + rn digs r else 1) = 1
    rw [if_neg h1]
    rcases h2 with ⟨h2, h3⟩ | ⟨h2, h3⟩
    · rw [if_neg (fun h => h.elim h2 h3)]
    · rw [if_pos (.inr h2), rn_stop fun x y e => h3 x y e]
  unfold pieceOf
  rw [e]
  rfl
theorem end_head {y rest : List Nat} (hy : headN digs y) (h0 : y = [] → EndR rest) : headN digs (y ++ rest) := fun c r e => by
  cases y with
  | nil => exact (end_cut (h0 rfl) c r e).2
  | cons a b => cases e; exact hy _ _ rfl
theorem bad_first {u : Str} {c : Nat} {y : List Nat} (e : tl u = c :: y) (h1 : c ∉ lets) (h2 : (c ∉ digs ∧ c ≠ 45) ∨ (c = 45 ∧ headN digs y)) (h3 : c ≠ 32) (hn : Nev ⟨#[c]⟩) (hl : u.length ≤ 300) : BadTk u :=
  ⟨⟨c, y, e, h3⟩, hl, fun rest he => by
    have : pieceOf (tl u ++ rest) = ⟨#[c]⟩ := by
      rw [e]
      exact piece1 h1 (h2.imp id fun h => ⟨h.1, end_head h.2 fun _ => he⟩)
    rw [this]
    exact ⟨(fun h => by have := congrArg tl h; rw [tl_nil.mpr rfl] at this; cases this), hn⟩⟩
def chs : Str := "!\"#$&'*+-./:;<=>?@ABCDEFGHIJKLMNOPQRSTUVWXYZ[\\]^_`{|}~\t"
instance (u : Str) : Decidable (Nev u) := decidable_of_iff (isI u = false ∧ isN u = false ∧ u ∉ res ∧ u ≠ "(" ∧ u ≠ ")" ∧ u ≠ ",") ⟨fun ⟨a, b, c, d, e, f⟩ => ⟨a, b, c, d, e, f⟩, fun ⟨a, b, c, d, e, f⟩ => ⟨a, b, c, d, e, f⟩⟩
theorem chs_ok : ∀ c ∈ tl chs, c ∉ lets ∧ c ∉ digs ∧ c ≠ 32 ∧ Nev ⟨#[c]⟩ := by decide +kernel
theorem chs_bad {c : Nat} (h : c ∈ tl chs) : BadTk ⟨#[c]⟩ := by
  obtain ⟨h1, h2, h3, h4⟩ := chs_ok c h
  refine bad_first (u := ⟨#[c]⟩) (c := c) (y := []) rfl h1 ?_ h3 h4 (show 1 ≤ 300 by decide)
  by_cases h5 : c = 45
  · exact .inr ⟨h5, fun x r e => by cases e⟩
  · exact .inl ⟨h2, h5⟩
theorem isI_bad' {z : Str} (h0 : z ≠ "0") (h : rmv (tl z) = [] ∨ (rmv (tl z)).head? = some 48 ∨ 60 < (rmv (tl z)).length) : isI z = false := by
  unfold isI
  rw [decide_eq_false h0, decide_eq_false (fun g => g h), Bool.false_or, Bool.false_and]
theorem ne_zero {z : Str} {x y : Nat} {r : List Nat} (e : tl z = x :: y :: r) : z ≠ "0" := fun h => by
  have : tl ("0" : Str) = [48] := by decide +kernel
  rw [h, this] at e
  cases e
theorem numL_two (m : Nat) : ∃ c r, TL.numL m = c :: r := by
  cases e : TL.numL m with
  | nil => exact absurd e (TL.numL_ne m)
  | cons a b => exact ⟨a, b, rfl⟩
/-- the bad tokens with a number in them -/
theorem bad_digits {m : Nat} (hm : m < 10 ^ 60) : BadTk ("0" ++ itxt (m : Int)) ∧ BadTk ("-0" ++ itxt (m : Int)) ∧ BadTk ("+" ++ itxt (m : Int)) := by
  obtain ⟨c, r, e⟩ := numL_two m
  have hl := TL.numL_len (n := m) (k := 60) (by decide) hm
  have e1 : tl (itxt (m : Int)) = TL.numL m := itxt_nat m
  have t0 : tl ("0" : Str) = [48] ∧ tl ("-0" : Str) = [45, 48] ∧ tl ("+" : Str) = [43] := by decide +kernel
  have len : (itxt (m : Int)).length ≤ 60 := by rw [← tl_len, e1]; exact hl
  have l0 : ("0" : Str).length = 1 ∧ ("-0" : Str).length = 2 ∧ ("+" : Str).length = 1 := by decide +kernel
  have f1 : tl ("0" ++ itxt (m : Int)) = 48 :: TL.numL m := by rw [tl_app, t0.1, e1]; rfl
  have f2 : tl ("-0" ++ itxt (m : Int)) = 45 :: 48 :: TL.numL m := by rw [tl_app, t0.2.1, e1]; rfl
  have f3 : tl ("+" ++ itxt (m : Int)) = 43 :: TL.numL m := by rw [tl_app, t0.2.2, e1]; rfl
  refine ⟨bad_num ⟨_, _, f1, .inr (in_digs.mpr ⟨by omega, by omega⟩), numL_digs⟩ (isI_bad' (ne_zero (f1.trans (by rw [e]))) (.inr (.inl ?_))) (by rw [len_app]; omega),
    bad_num ⟨_, _, f2, .inl rfl, fun x hx => ?_⟩ (isI_bad' (ne_zero f2) (.inr (.inl ?_))) (by rw [len_app]; omega),
    bad_first f3 (by decide +kernel) (.inl ⟨by decide +kernel, by decide⟩) (by decide) (by decide +kernel) (by rw [len_app]; omega)⟩
  · rw [f1]; rfl
  · rcases List.mem_cons.mp hx with h | h
    · rw [h]; exact in_digs.mpr ⟨by omega, by omega⟩
    · exact numL_digs x h
  · rw [f2]; rfl
theorem bad_great {m : Nat} (h1 : 10 ^ 60 ≤ m) (h2 : m < 10 ^ 61) : BadTk (itxt (m : Int)) ∧ BadTk ("-" ++ itxt (m : Int)) := by
  obtain ⟨c, r, e⟩ := numL_two m
  have hl := TL.numL_len (n := m) (k := 61) (by decide) h2
  have e1 : tl (itxt (m : Int)) = TL.numL m := itxt_nat m
  have big : 60 < (TL.numL m).length := Nat.lt_of_not_le fun h => by
    have := numL_big 60 h
    omega
  have t0 : tl ("-" : Str) = [45] := by decide +kernel
  have l0 : ("-" : Str).length = 1 := by decide +kernel
  have len : (itxt (m : Int)).length ≤ 61 := by rw [← tl_len, e1]; exact hl
  have f2 : tl ("-" ++ itxt (m : Int)) = 45 :: TL.numL m := by rw [tl_app, t0, e1]; rfl
  have hc := in_digs.mp (numL_digs (m := m) c (by rw [e]; exact List.mem_cons_self))
  have r1 : rmv (TL.numL m) = TL.numL m := by
    rw [e]
    show (if c = 45 then r else c :: r) = _
    rw [if_neg (by omega)]
  have i1 : isI (itxt (m : Int)) = false := by
    refine isI_bad' (fun h => ?_) (.inr (.inr (by rw [e1, r1]; exact big)))
    have := congrArg tl h
    rw [e1, show tl ("0" : Str) = [48] by decide +kernel] at this
    rw [this] at big
    exact absurd big (by decide)
  have i2 : isI ("-" ++ itxt (m : Int)) = false := by
    refine isI_bad' (ne_zero (x := 45) (y := c) (r := r) (by rw [f2, e])) (.inr (.inr ?_))
    rw [f2, show rmv (45 :: TL.numL m) = TL.numL m by simp [rmv]]
    exact big
  exact ⟨bad_num (itxt_num _) i1 (by omega), bad_num ⟨45, TL.numL m, f2, .inl rfl, numL_digs⟩ i2 (by rw [len_app]; omega)⟩
theorem bad_fix : BadTk "00" ∧ BadTk "07" ∧ BadTk "-0" ∧ BadTk "-" ∧ BadTk "--1" ∧ BadTk "-x" ∧ BadTk "+1" := by
  have t : tl ("00" : Str) = [48, 48] ∧ tl ("07" : Str) = [48, 55] ∧ tl ("-0" : Str) = [45, 48] ∧ tl ("-" : Str) = [45] ∧ tl ("--1" : Str) = [45, 45, 49] ∧ tl ("-x" : Str) = [45, 120] ∧ tl ("+1" : Str) = [43, 49] := by decide +kernel
  obtain ⟨t1, t2, t3, t4, t5, t6, t7⟩ := t
  refine ⟨bad_num ⟨_, _, t1, .inr (by decide +kernel), by decide +kernel⟩ (by decide +kernel) (by decide +kernel), bad_num ⟨_, _, t2, .inr (by decide +kernel), by decide +kernel⟩ (by decide +kernel) (by decide +kernel), bad_num ⟨_, _, t3, .inl rfl, by decide +kernel⟩ (by decide +kernel) (by decide +kernel), ?_, ?_, ?_, ?_⟩
  · exact bad_first t4 (by decide +kernel) (.inr ⟨rfl, fun x r e => by cases e⟩) (by decide) (by decide +kernel) (by decide +kernel)
  · exact bad_first t5 (by decide +kernel) (.inr ⟨rfl, fun x r e => by cases e; decide +kernel⟩) (by decide) (by decide +kernel) (by decide +kernel)
  · exact bad_first t6 (by decide +kernel) (.inr ⟨rfl, fun x r e => by cases e; decide +kernel⟩) (by decide) (by decide +kernel) (by decide +kernel)
  · exact bad_first t7 (by decide +kernel) (.inl ⟨by decide +kernel, by decide⟩) (by decide) (by decide +kernel) (by decide +kernel)
section
variable {P : Program} {w : World} {K : PySem.W.Frag} {mg : Str → Option Value} {base : Heap}
/-! ### _law_bad_token -/
def spBadTok : Sp := fun vs H Q _ => ∃ (d : Addr) (c : Int), vs = [.ref d, .int c] ∧ Dr H d ∧ c.natAbs < 10 ^ 60 ∧ ∀ u H', Go d H H' → BadTk u → Q (.str u) H'
theorem ok_law_bad_token (T : Txt K mg) : FnOk P w K mg base CX0 2 T.a_law_bad_token T.d_law_bad_token P_law_bad_token spBadTok := by
  have G_law_take := ok_law_take (P := P) (w := w) (base := base) T
  refine T.F_law_bad_token.ok sc_law_bad_token (fun vs H Q E h => ?_) (fun cdv A outer s H vs Q E hr h => ?_)
  · obtain ⟨d, c, rfl, _⟩ := h
    rfl
  obtain ⟨d, c, rfl, hD, hc, q⟩ := h
  refine ⟨_, (pss_cons (ps_set (i := 2) sc_law_bad_token.nd rfl (Or.inr rfl) pe_str)
    (pss_cons (ps_set (i := 3) sc_law_bad_token.nd rfl (Or.inl rfl) (pe_callTy call_str_int (by rfl) T.z_str (by decide +kernel) (pa_cons (pe_callB (call_abs) (by rfl) T.z_abs (by decide +kernel) (pa_cons (pv 1) pa_nil)) pa_nil)))
    (pss_cons (ps_set (i := 4) sc_law_bad_token.nd rfl (Or.inl rfl) (pe_callTy call_str_int (by rfl) T.z_str (by decide +kernel) (pa_cons (pe_op op_add (pe_op op_pow pe_int pe_int) (pe_callB (call_abs) (by rfl) T.z_abs (by decide +kernel) (pa_cons (pv 1) pa_nil))) pa_nil)))
    (pss_cons (ps_set (i := 5) sc_law_bad_token.nd rfl (Or.inl rfl) (pe_lst (pa_cons pe_str (pa_cons pe_str (pa_cons pe_str (pa_cons (pe_op op_add_str pe_str (pv 3)) (pa_cons (pe_op op_add_str pe_str (pv 3)) (pa_cons (pv 4) (pa_cons (pe_op op_add_str pe_str (pv 4)) (pa_cons pe_str (pa_cons pe_str (pa_cons pe_str (pa_cons pe_str (pa_cons (pe_op op_add_str pe_str (pv 3)) pa_nil))))))))))))))
    (pss_cons (ps_set (i := 5) sc_law_bad_token.nd rfl (Or.inl rfl) (pe_op op_cat (pv 5) (pe_lc (own := [("k", 6)]) (g := (gName 6)) (tt := tYes) rfl sc_law_bad_token.nd (pi_range1 (by rfl) T.z_range (pa_cons pe_int pa_nil)) (blkOk_by (N := N_law_bad_token) (sc := defScope s_law_bad_token) (by decide +kernel)) (fun _ _ _ _ _ => (pg_name (i := 6) sc_law_bad_token.nd rfl (Or.inl rfl))) (fun _ _ _ _ _ => pts_nil) (fun _ _ _ _ _ => (pe_ix ix_str (pv 2) (pe_call G_law_take (hr.mono (by omega)) (by rfl) T.m_law_take T.F_law_take.kp T.b_law_take .nil pass0 (pa_cons (pv 0) (pa_cons (pe_callB call_len_str (by rfl) T.z_len PySem.boot_len (pa_cons (pv 2) pa_nil)) pa_nil))) (fun _ _ => rfl))))))
    (pss_one (ps_ret (pe_ix ix_list (pv 5) (pe_call G_law_take (hr.mono (by omega)) (by rfl) T.m_law_take T.F_law_take.kp T.b_law_take .nil pass0 (pa_cons (pv 0) (pa_cons pe_int pa_nil))) (fun _ _ => rfl))))))))), ?_⟩
  have ea : (if c < 0 then -c else c) = (c.natAbs : Int) := by split <;> omega
  have p60 : (10 : Int) ^ (Int.toNat 60) = ((10 ^ 60 : Nat) : Int) := by decide
  have q61 : (10 : Nat) ^ 61 = 10 * 10 ^ 60 := by decide
  have hG : (((10 ^ 60 : Nat) : Int) + (c.natAbs : Int)) = ((10 ^ 60 + c.natAbs : Nat) : Int) := (Int.natCast_add _ _).symm
  refine ⟨_, rfl, _, rfl, _, rfl, log_ok (by rw [ea]; omega), ?_⟩
  refine ⟨_, _, rfl, rfl, ⟨by decide, by decide, by decide⟩, _, rfl, _, rfl, _, _, rfl, rfl, _, rfl, log_ok (by rw [ea, p60, hG]; omega), ?_⟩
  rw [ea, p60, hG]
  obtain ⟨b1, b2, b3⟩ := bad_digits hc
  obtain ⟨b4, b5⟩ := bad_great (m := 10 ^ 60 + c.natAbs) (by omega) (by omega)
  obtain ⟨b6, b7, b8, b9, b10, b11, b12⟩ := bad_fix
  have hD3 : (itxt (c.natAbs : Int)).length ≤ 300 := by have := b1.ln; rw [len_app] at this; omega
  have hG3 := b4.ln
  have l0 : ("0" : Str).length = 1 ∧ ("-0" : Str).length = 2 ∧ ("+" : Str).length = 1 ∧ ("-" : Str).length = 1 := by decide +kernel
  have ll : ∀ x : Str, x.length ≤ 2 → ∀ y : Str, y.length ≤ 300 → x.length + y.length ≤ sizeLine := fun x hx y hy => szl (by omega)
  refine ⟨_, rfl, _, _, rfl, rfl, ll "0" (by omega) _ hD3, _, rfl, _, _, rfl, rfl, ll "-0" (by omega) _ hD3, _, rfl, _, rfl, _, _, rfl, rfl, ll "-" (by omega) _ hG3, _, rfl, _, _, rfl, rfl, ll "+" (by omega) _ hD3, (Nat.le_of_ble_eq_true rfl), fun p1 hp1 => ?_⟩
  have g1 := fun o => Go.new (o := o) hD hp1
  have e1 := fun (o : HO) => (upd_same (H := H) (a := p1) (o := o))
  refine ⟨_, rfl, 6, rfl, by decide, by decide, fun D hD2 => ?_⟩
  generalize hXX : ([V.str "00", .str "07", .str "-0", .str ("0" ++ Str.ofString (toString (c.natAbs : Int))), .str ("-0" ++ Str.ofString (toString (c.natAbs : Int))), .str (Str.ofString (toString ((10 ^ 60 + c.natAbs : Nat) : Int))), .str ("-" ++ Str.ofString (toString ((10 ^ 60 + c.natAbs : Nat) : Int))), .str "-", .str "--1", .str "-x", .str "+1", .str ("+" ++ Str.ofString (toString (c.natAbs : Int)))] : List V) = XX at *
  have hXl : XX.length = 12 := by rw [← hXX]; rfl
  have hXb : ∀ v ∈ XX, ∃ u, v = V.str u ∧ BadTk u := by
    intro v hv
    rw [← hXX] at hv
    simp only [List.mem_cons, List.not_mem_nil, or_false] at hv
    rcases hv with h | h | h | h | h | h | h | h | h | h | h | h
    · exact ⟨_, h, b6⟩
    · exact ⟨_, h, b7⟩
    · exact ⟨_, h, b8⟩
    · exact ⟨_, h, b1⟩
    · exact ⟨_, h, b2⟩
    · exact ⟨_, h, b4⟩
    · exact ⟨_, h, b5⟩
    · exact ⟨_, h, b9⟩
    · exact ⟨_, h, b10⟩
    · exact ⟨_, h, b11⟩
    · exact ⟨_, h, b12⟩
    · exact ⟨_, h, b3⟩
  have nD : D ≠ d := new_ne (g1 _).dr hD2
  have gD := fun o => Go.new (o := o) (g1 (.lst XX)).dr hD2
  refine lc_range (lo := 0) (n := 6) (fun (j : Nat) (H' : Hp) => ∃ vs : List V, vs.length = j ∧ Go d (upd H p1 (.lst XX)) H' ∧ H' D = some (.lst vs) ∧ ∀ v ∈ vs, ∃ u, v = V.str u ∧ BadTk u) ?_ ?_ ?_
  · exact ⟨[], rfl, gD _, upd_same, fun v h => nomatch h⟩
  · rintro j H' hj ⟨vs, hl, g, e, hb⟩
    refine ⟨rfl, ?_⟩
    refine yes_if ?_
    have hlc : (chs : Str).length ≤ sizeLine := by decide +kernel
    refine ⟨_, rfl, _, rfl, _, rfl, chs, rfl, hlc, d, _, rfl, g.dr, (by decide +kernel), fun r H4 g4 r0 r1 => ?_⟩
    obtain ⟨ch, hch, hm⟩ := atI_mem (xs := chs.cps.toList) r0 (by rw [← len_list]; exact r1)
    refine ⟨_, _, ch, rfl, rfl, hlc, hch, ?_⟩
    have e4 := g4.fr D _ nD e
    refine ⟨vs, e4, small1000 (by omega), vs ++ [.str ⟨#[ch]⟩], by rw [List.length_append, hl] <;> rfl, ?_, upd_same, fun v hv => ?_⟩
    · have g5 := g.trans g4
      refine ⟨fun b o hb eb => ?_, ?_⟩
      · rw [upd_ne (ne_of_none eb hD2)]
        exact g5.fr b o hb eb
      · obtain ⟨ns, h⟩ := g5.dr
        exact ⟨ns, by rw [upd_ne nD.symm]; exact h⟩
    · rcases List.mem_append.mp hv with h | h
      · exact hb v h
      · rw [List.mem_singleton.mp h]
        exact ⟨_, rfl, chs_bad hm⟩
  · rintro H' ⟨vs, hl, g, e, hb⟩
    have np : p1 ≠ d := new_ne hD hp1
    have ep := g.fr p1 _ np upd_same
    refine ⟨p1, D, _, _, rfl, rfl, ep, e, by rw [hXl, hl]; decide, fun p2 hp2 => ?_⟩
    have g2 := fun o => Go.new (o := o) g.dr hp2
    have np2 : p2 ≠ d := new_ne g.dr hp2
    refine ⟨_, rfl, _, rfl, d, _, rfl, (g2 _).dr, (by decide), fun r H5 g5 r0 r1 => ?_⟩
    obtain ⟨v, hv, hm⟩ := atI_mem (xs := XX ++ vs) r0 (by rw [List.length_append, hXl, hl]; exact r1)
    have hbv : ∃ u, v = V.str u ∧ BadTk u := by
      rcases List.mem_append.mp hm with h | h
      · exact hXb v h
      · exact hb v h
    obtain ⟨u, rfl, hu⟩ := hbv
    refine ⟨_, _, _, _, rfl, rfl, sqd (g5.fr p2 _ np2 upd_same), hv, ?_⟩
    exact q u H5 ((g1 _).trans (g.trans ((g2 _).trans g5))) hu
/-! ### _law_misfit -/
def spMisfit (K : PySem.W.Frag) : Sp := fun vs H Q _ => ∃ (d n : Addr) (c : Cd) (xs : List Str) (z : Int), vs = [.ref d, .str c.str, .ref n, .int z] ∧ Dr H d ∧ Keep K d H n (xs.map V.str) ∧ xs ≠ [] ∧ (∀ x ∈ xs, Nam x) ∧ z.natAbs < 10 ^ 60 ∧ ∀ u H', Go d H H' → Mis c u → Q (.str u) H'
theorem ok_law_misfit (T : Txt K mg) : FnOk P w K mg base CX0 6 T.a_law_misfit T.d_law_misfit P_law_misfit (spMisfit K) := by
  have G_law_take := ok_law_take (P := P) (w := w) (base := base) T
  have G_law_reserved := ok_law_reserved (P := P) (w := w) (base := base) T
  have G_law_name := ok_law_name (P := P) (w := w) (base := base) T
  have G_law_fits := ok_law_fits (P := P) (w := w) (base := base) T
  have G_law_bad_token := ok_law_bad_token (P := P) (w := w) (base := base) T
  refine T.F_law_misfit.ok sc_law_misfit (fun vs H Q E h => ?_) (fun cdv A outer s H vs Q E hr h => ?_)
  · obtain ⟨d, n, c, xs, z, rfl, _⟩ := h
    rfl
  obtain ⟨d, n, c, xs, z, rfl, hD, hk, hne, hx, hz, q⟩ := h
  refine ⟨_, (pss_cons (ps_set (i := 4) sc_law_misfit.nd rfl (Or.inl rfl) (pe_call0 G_law_reserved (hr.mono (by omega)) (by rfl) T.m_law_reserved T.F_law_reserved.kp T.b_law_reserved .nil pass0))
    (pss_cons (ps_set (i := 5) sc_law_misfit.nd rfl (Or.inl rfl) (pe_lst (pa_cons (pe_ix ix_list (pv 4) (pe_call G_law_take (hr.mono (by omega)) (by rfl) T.m_law_take T.F_law_take.kp T.b_law_take .nil pass0 (pa_cons (pv 0) (pa_cons pe_int pa_nil))) (fun _ _ => rfl)) (pa_cons (pe_ix ix_list (pv 4) (pe_call G_law_take (hr.mono (by omega)) (by rfl) T.m_law_take T.F_law_take.kp T.b_law_take .nil pass0 (pa_cons (pv 0) (pa_cons pe_int pa_nil))) (fun _ _ => rfl)) (pa_cons pe_str (pa_cons pe_str (pa_cons pe_str (pa_cons pe_str (pa_cons pe_str (pa_cons (pe_callTy call_str_int (by rfl) T.z_str (by decide +kernel) (pa_cons (pv 3) pa_nil)) pa_nil))))))))))
    (pss_cons (ps_set (i := 5) sc_law_misfit.nd rfl (Or.inl rfl) (pe_op op_cat (pv 5) (pe_lst (pa_cons (pe_ix ix_list (pv 2) (pe_call G_law_take (hr.mono (by omega)) (by rfl) T.m_law_take T.F_law_take.kp T.b_law_take .nil pass0 (pa_cons (pv 0) (pa_cons (pe_callB call_len_seq (by rfl) T.z_len PySem.boot_len (pa_cons (pv 2) pa_nil)) pa_nil))) (fun _ _ => rfl)) (pa_cons pe_str (pa_cons (pe_call G_law_name (hr.mono (by omega)) (by rfl) T.m_law_name T.F_law_name.kp T.b_law_name .nil pass0 (pa_cons (pv 0) pa_nil)) pa_nil))))))
    (pss_cons (ps_set (i := 6) sc_law_misfit.nd rfl (Or.inl rfl) (pe_ix ix_list (pv 5) (pe_call G_law_take (hr.mono (by omega)) (by rfl) T.m_law_take T.F_law_take.kp T.b_law_take .nil pass0 (pa_cons (pv 0) (pa_cons pe_int pa_nil))) (fun _ _ => rfl)))
    (pss_cons (ps_if (PW.pt (pw_or (pt_cmpR op_eq (pe_call G_law_take (hr.mono (by omega)) (by rfl) T.m_law_take T.F_law_take.kp T.b_law_take .nil pass0 (pa_cons (pv 0) (pa_cons pe_int pa_nil))) pe_int (nomark _)) (pw_or1 (pt_val (pe_call G_law_fits (hr.mono (by omega)) (by rfl) T.m_law_fits T.F_law_fits.kp T.b_law_fits .nil pass0 (pa_cons (pv 6) (pa_cons (pv 1) pa_nil)))))))
    (pss_one (ps_ret (pe_call G_law_bad_token (hr.mono (by omega)) (by rfl) T.m_law_bad_token T.F_law_bad_token.kp T.b_law_bad_token .nil pass0 (pa_cons (pv 0) (pa_cons (pv 3) pa_nil)))))
    pss_nil)
    (pss_one (ps_ret (pv 6)))))))), ?_⟩
  refine ⟨rfl, fun p H1 s1 hp e1 => ?_⟩
  have g1 := Go.same hD s1
  have np : p ≠ d := by
    rintro rfl
    obtain ⟨ns, e⟩ := hD
    rw [hp] at e; cases e
  have hrl : (res.map V.str).length = 16 := by decide +kernel
  refine ⟨_, rfl, _, rfl, d, _, rfl, g1.dr, (by decide), fun r2 H2 g2 a0 a1 => ?_⟩
  obtain ⟨v2, hv2, hm2⟩ := atI_map (f := V.str) (xs := res) a0 (by rw [List.length_map] at hrl; rw [hrl]; exact a1)
  refine ⟨_, _, _, _, rfl, rfl, sqd (g2.fr p _ np e1), hv2, ?_⟩
  have e2 := g2.fr p _ np e1
  refine ⟨_, rfl, _, rfl, d, _, rfl, g2.dr, (by decide), fun r3 H3 g3 b0 b1 => ?_⟩
  obtain ⟨v3, hv3, hm3⟩ := atI_map (f := V.str) (xs := res) b0 (by rw [List.length_map] at hrl; rw [hrl]; exact b1)
  refine ⟨_, _, _, _, rfl, rfl, sqd (g3.fr p _ np e2), hv3, ?_⟩
  refine ⟨_, rfl, _, rfl, log_ok (by have e60 : (10 : Nat) ^ 61 = 10 * 10 ^ 60 := by decide
                                     omega), (Nat.le_of_ble_eq_true rfl), fun p4 hp4 => ?_⟩
  have g4 := fun o => Go.new (o := o) g3.dr hp4
  have np4 : p4 ≠ d := new_ne g3.dr hp4
  have g14 := fun o => g1.trans (g2.trans (g3.trans (g4 o)))
  refine ⟨_, rfl, _, rfl, _, rfl, _, rfl, _, _, rfl, .inl (hk.go (g14 _)).now, d, _, rfl, (g4 _).dr, ?_, fun r5 H5 g5 c0 c1 => ?_⟩
  · rw [List.length_map]
    have := List.length_pos_iff.mpr hne
    omega
  rw [List.length_map] at c1
  obtain ⟨v5, hv5, hm5⟩ := atI_map (f := V.str) c0 c1
  refine ⟨_, _, _, _, rfl, rfl, ((hk.go (g14 _)).go g5).now, hv5, ?_⟩
  refine ⟨_, rfl, d, rfl, g5.dr, fun v6 H6 g6 hn6 => ?_⟩
  refine ⟨(Nat.le_of_ble_eq_true rfl), fun p7 hp7 => ?_⟩
  have g7 := fun o => Go.new (o := o) g6.dr hp7
  have e7a := (g7 (.lst [V.str v5, .str "1", .str v6])).fr p4 _ np4 (g6.fr p4 _ np4 (g5.fr p4 _ np4 upd_same))
  refine ⟨p4, p7, _, _, rfl, rfl, e7a, upd_same, (Nat.le_of_ble_eq_true rfl), fun p8 hp8 => ?_⟩
  have g8 := fun o => Go.new (o := o) (g7 (.lst [V.str v5, .str "1", .str v6])).dr hp8
  have np8 : p8 ≠ d := new_ne (g7 _).dr hp8
  have resP : ∀ z ∈ res, Prp z ∧ z.length ≤ 300 := fun z hz => by
    obtain ⟨h1, h2, h3⟩ := res_wd z hz
    exact ⟨.inr (.inl ⟨fun e => by rw [← tl_len, e] at h2; exact absurd h2 (by decide), h1⟩), by omega⟩
  have namP : ∀ z, Nam z → Prp z ∧ z.length ≤ 300 := fun z h => by
    refine ⟨.inr (.inl ⟨fun e => ?_, h.wd⟩), by have := h.len; omega⟩
    have h1 := h.len.1
    rw [← tl_len, e] at h1
    exact absurd h1 (by decide)
  have intP : ∀ k : Int, k.natAbs < 10 ^ 60 → Prp (itxt k) ∧ (itxt k).length ≤ 300 := fun k hk => ⟨.inr (.inr ⟨k, rfl, hk⟩), by
    have := (int_read hk).2
    omega⟩
  have lits : ("0" : Str) = itxt 0 ∧ ("-1" : Str) = itxt (-1) ∧ ("1" : Str) = itxt 1 := by decide +kernel
  have pnP : ∀ z, Pn z → Prp z ∧ z.length ≤ 300 := fun z h => ⟨.inl h, by rcases h with h | h | h <;> rw [h] <;> decide +kernel⟩
  have hall : ∀ v ∈ ([V.str v2, .str v3, .str "(", .str ")", .str ",", .str "0", .str "-1", .str (itxt z)] ++ [V.str v5, .str "1", .str v6]), ∃ u, v = V.str u ∧ Prp u ∧ u.length ≤ 300 := by
    intro v hv
    simp only [List.cons_append, List.nil_append, List.mem_cons, List.not_mem_nil, or_false] at hv
    rcases hv with h | h | h | h | h | h | h | h | h | h | h
    · exact ⟨_, h, resP _ hm2⟩
    · exact ⟨_, h, resP _ hm3⟩
    · exact ⟨_, h, pnP _ pn_o⟩
    · exact ⟨_, h, pnP _ pn_c⟩
    · exact ⟨_, h, pnP _ pn_k⟩
    · exact ⟨_, h, by rw [lits.1]; exact intP 0 (by decide)⟩
    · exact ⟨_, h, by rw [lits.2.1]; exact intP (-1) (by decide)⟩
    · exact ⟨_, h, intP z hz⟩
    · exact ⟨_, h, namP _ (hx _ hm5)⟩
    · exact ⟨_, h, by rw [lits.2.2]; exact intP 1 (by decide)⟩
    · exact ⟨_, h, namP _ hn6⟩
  refine ⟨_, rfl, _, rfl, d, _, rfl, (g8 _).dr, (by decide), fun r9 H9 g9 d0 d1 => ?_⟩
  obtain ⟨v9, hv9, hm9⟩ := atI_mem (xs := [V.str v2, .str v3, .str "(", .str ")", .str ",", .str "0", .str "-1", .str (itxt z)] ++ [V.str v5, .str "1", .str v6]) d0 (by exact d1)
  obtain ⟨u, rfl, hu, hul⟩ := hall _ hm9
  refine ⟨_, _, _, _, rfl, rfl, sqd (g9.fr p8 _ np8 upd_same), hv9, ?_⟩
  have g19 := (g14 _).trans (g5.trans (g6.trans ((g7 _).trans ((g8 _).trans g9))))
  refine ⟨_, rfl, d, _, rfl, g9.dr, (by decide), fun r10 H10 g10 _ _ => ?_⟩
  refine ⟨rfl, _, rfl, ?_⟩
  refine ite2 (fun c1 => ?_) (fun c1 => ?_)
  · exact iteT ⟨_, rfl, _, rfl, d, z, rfl, g10.dr, hz, fun w H11 g11 hb => q w H11 (g19.trans (g10.trans g11)) (hb.mis c)⟩
  · refine ⟨_, rfl, _, rfl, u, c, rfl, hu, hul, fun b H11 s11 hb => ⟨b, rfl, ?_⟩⟩
    have g11 := Go.same g10.dr s11
    cases b with
    | true => exact iteT ⟨_, rfl, _, rfl, d, z, rfl, g11.dr, hz, fun w H12 g12 hb => q w H12 (g19.trans (g10.trans (g11.trans g12))) (hb.mis c)⟩
    | false => exact iteF ⟨_, rfl, q u H11 (g19.trans (g10.trans g11)) (prp_mis hu hul fun h => Bool.false_ne_true (hb.mpr h))⟩
/-! ### _law_is_joined, _law_gap -/
def spJoined : Sp := fun vs H Q _ => ∃ a b : Str, vs = [.str a, .str b] ∧ ∀ r : Bool, (r = false → ¬ (Txt.islower a = true ∧ Txt.islower b = true) ∧ ¬ (Txt.isdigit a = true ∧ Txt.isdigit b = true)) → Q (.bl r) H
theorem ok_law_is_joined (T : Txt K mg) : FnOk P w K mg base CX0 1 T.a_law_is_joined T.d_law_is_joined P_law_is_joined spJoined := by
  refine T.F_law_is_joined.ok sc_law_is_joined (fun vs H Q E h => ?_) (fun cdv A outer s H vs Q E hr h => ?_)
  · obtain ⟨a, b, rfl, _⟩ := h
    rfl
  obtain ⟨a, b, rfl, q⟩ := h
  refine ⟨_, (pss_one (ps_ret (pe_or (pe_and (pe_bm0 PySem.F.plainAttrs_str PySem.F.slot_str_islower PySem.F.type_str_islower mt_islower (pv 0)) (pe_one (pe_bm0 PySem.F.plainAttrs_str PySem.F.slot_str_islower PySem.F.type_str_islower mt_islower (pv 1)))) (pe_one (pe_and (pe_bm0 PySem.F.plainAttrs_str PySem.F.slot_str_isdigit PySem.F.type_str_isdigit mt_isdigit (pv 0)) (pe_one (pe_bm0 PySem.F.plainAttrs_str PySem.F.slot_str_isdigit PySem.F.type_str_isdigit mt_isdigit (pv 1)))))))), ?_⟩
  refine ⟨_, rfl, rfl, a, rfl, rfl, trivial, _, rfl, ?_⟩
  refine ite2 (fun c1 => ?_) (fun c1 => ?_)
  · refine ⟨_, rfl, rfl, b, rfl, rfl, trivial, _, rfl, ?_⟩
    refine ite2 (fun c2 => ?_) (fun c2 => ?_)
    · exact q true fun h => nomatch h
    · refine ⟨_, rfl, rfl, a, rfl, rfl, trivial, _, rfl, ?_⟩
      refine ite2 (fun c3 => ?_) (fun c3 => ?_)
      · exact ⟨_, rfl, rfl, b, rfl, rfl, trivial, q _ fun h => ⟨fun g => c2 g.2, fun g => by rw [g.2] at h; cases h⟩⟩
      · exact q false fun _ => ⟨fun g => c2 g.2, fun g => c3 g.1⟩
  · refine ⟨false, rfl, iteF ?_⟩
    refine ⟨_, rfl, rfl, a, rfl, rfl, trivial, _, rfl, ?_⟩
    refine ite2 (fun c3 => ?_) (fun c3 => ?_)
    · exact ⟨_, rfl, rfl, b, rfl, rfl, trivial, q _ fun h => ⟨fun g => c1 g.1, fun g => by rw [g.2] at h; cases h⟩⟩
    · exact q false fun _ => ⟨fun g => c1 g.1, fun g => c3 g.1⟩
theorem cut_last {z : Str} {pre : List Nat} {y : Nat} (e : tl z = pre ++ [y]) : tl (cutS z (some ((z.length : Int) - 1)) none) = [y] := by
  have hl : z.length = pre.length + 1 := by rw [← tl_len, e, List.length_append] <;> rfl
  rw [show ((z.length : Int) - 1) = ((pre.length : Nat) : Int) by omega, cut_from (by omega), e, List.drop_left]
def spGap : Sp := fun vs H Q _ => ∃ (z u : Str), vs = [.str z, .str u] ∧ z.length ≤ 9000000 ∧ u.length ≤ 300 ∧
  ∀ r : Bool, (r = false → ∀ pre y x rest, tl z = pre ++ [y] → tl u = x :: rest → ¬ (y ∈ lets ∧ x ∈ lets) ∧ ¬ (y ∈ digs ∧ x ∈ digs)) → Q (.str (if r = true then z ++ " " else z)) H
theorem ok_law_gap (T : Txt K mg) : FnOk P w K mg base CX0 2 T.a_law_gap T.d_law_gap P_law_gap spGap := by
  have G_law_is_joined := ok_law_is_joined (P := P) (w := w) (base := base) T
  refine T.F_law_gap.ok sc_law_gap (fun vs H Q E h => ?_) (fun cdv A outer s H vs Q E hr h => ?_)
  · obtain ⟨z, u, rfl, _⟩ := h
    rfl
  obtain ⟨z, u, rfl, hz, hul, q⟩ := h
  refine ⟨_, (pss_cons (ps_if (pt_val (pe_call G_law_is_joined (hr.mono (by omega)) (by rfl) T.m_law_is_joined T.F_law_is_joined.kp T.b_law_is_joined .nil pass0 (pa_cons (pe_slice sl_str (pv 0) (po_some (pe_op op_sub (pe_callB call_len_str (by rfl) T.z_len PySem.boot_len (pa_cons (pv 0) pa_nil)) pe_int)) po_none) (pa_cons (pe_slice sl_str (pv 1) po_none (po_some pe_int)) pa_nil))))
    (pss_one (ps_ret (pe_op op_add_str (pv 0) pe_str)))
    pss_nil)
    (pss_one (ps_ret (pv 0)))), ?_⟩
  have hzl : z.length ≤ sizeLine := szl (by omega)
  have one : ∀ {x : Nat}, x ∈ lets → ∀ {v : Str}, tl v = [x] → Txt.islower v = true := fun {x} hx {v} e => (low_wd (fun c hc => by
    have : c ∈ tl v := hc
    rw [e] at this
    rw [List.mem_singleton.mp this]
    exact in_lets.mp hx) (by rw [e]; exact List.cons_ne_nil _ _)).1
  have oneD : ∀ {x : Nat}, x ∈ digs → ∀ {v : Str}, tl v = [x] → Txt.isdigit v = true := fun {x} hx {v} e => dig_all (by rw [e]; exact List.cons_ne_nil _ _) fun c hc => by
    rw [e] at hc
    rw [List.mem_singleton.mp hc]
    exact hx
  refine ⟨_, rfl, _, rfl, z, rfl, hzl, _, _, rfl, rfl, _, rfl, z, rfl, hzl, _, rfl, _, rfl, u, rfl, szl (by omega), _, _, rfl, fun r hjj => ?_⟩
  have fin : r = false → ∀ pre y x rest, tl z = pre ++ [y] → tl u = x :: rest → ¬ (y ∈ lets ∧ x ∈ lets) ∧ ¬ (y ∈ digs ∧ x ∈ digs) := fun h0 pre y x rest e1 e2 => by
    obtain ⟨h1, h2⟩ := hjj h0
    have f1 := cut_last e1
    have f2 : tl (cutS u none (some 1)) = [x] := by rw [cut_one, e2] <;> rfl
    exact ⟨fun h => h1 ⟨one h.1 f1, one h.2 f2⟩, fun h => h2 ⟨oneD h.1 f1, oneD h.2 f2⟩⟩
  refine ⟨r, rfl, ?_⟩
  cases r with
  | true => exact iteT ⟨_, rfl, _, _, rfl, rfl, by have : (" " : Str).length = 1 := by decide +kernel
                                                   exact szl (by omega), q true fun h => nomatch h⟩
  | false => exact iteF ⟨_, rfl, q false fin⟩
end
end NL

namespace NL
open PySem PySem.Spec PyProof.Rows L2
/-! ### tokens held against places -/
inductive Scan : List (Str × Cd) → List Tok → Except Nat (List Tok) → Prop where
  | nil (l : List Tok) : Scan [] l (.ok l)
  | stop {w : Str} {c : Cd} {L : List (Str × Cd)} {t : Tok} {l : List Tok} : ¬ acc c t.1 → Scan ((w, c) :: L) (t :: l) (.error t.2)
  | go {w : Str} {c : Cd} {L : List (Str × Cd)} {t : Tok} {l : List Tok} {res : Except Nat (List Tok)} : acc c w → t.1 = w → Scan L l res → Scan ((w, c) :: L) (t :: l) res
theorem scan_app : ∀ {A B : List (Str × Cd)} {l : List Tok} {res : Except Nat (List Tok)}, Scan (A ++ B) l res → (∃ c, Scan A l (.error c) ∧ res = .error c) ∨ ∃ r, Scan A l (.ok r) ∧ Scan B r res
  | [], B, l, res, h => .inr ⟨l, .nil l, h⟩
  | (w, c) :: A, B, l, res, h => by
    cases h with
    | stop h => exact .inl ⟨_, .stop h, rfl⟩
    | go h1 h2 h3 =>
      rcases scan_app (A := A) h3 with ⟨c, g1, g2⟩ | ⟨r, g1, g2⟩
      · exact .inl ⟨c, .go h1 h2 g1, g2⟩
      · exact .inr ⟨r, .go h1 h2 g1, g2⟩
def Rk (x : Rs Pt) : Except Nat (List Tok) → Prop
  | .error c => x = .error c
  | .ok r => ∃ p, x = .ok (p, r)
def RkL (x : Rs (List Pt)) : Except Nat (List Tok) → Prop
  | .error c => x = .error c
  | .ok r => ∃ ps, x = .ok (ps, r)
inductive PsPl (rp : RP) : List Str → Str → List (Str × Cd) → Prop where
  | nil (b : Str) : PsPl rp [] b [((")" : Str), Cd.no true)]
  | cons {k : Str} {ks : List Str} {b : Str} {cb : Cd} {A L : List (Str × Cd)} : (∀ u, acc cb u ↔ u = b) → (∀ l res, Scan A l res → Rk (rp k l) res) → PsPl rp ks "," L → PsPl rp (k :: ks) b ((b, cb) :: (A ++ L))
theorem ps_scan {rp : RP} {ks : List Str} {b : Str} {L : List (Str × Cd)} (h : PsPl rp ks b L) : ∀ {l : List Tok} {res : Except Nat (List Tok)}, Scan L l res → RkL (rdPs rp ks b l) res := by
  induction h with
  | nil b =>
    intro l res h
    cases h with
    | stop h =>
      rename_i t l
      have : t.1 ≠ ")" := fun e => h ⟨rfl, e⟩
      show rdPs rp [] b (t :: l) = .error t.2
      rw [rdPs, passT, if_neg this]
    | go h1 h2 h3 =>
      rename_i t l
      cases h3
      show ∃ ps, rdPs rp [] b (t :: l) = .ok (ps, l)
      exact ⟨[], by rw [rdPs, passT, if_pos h2]⟩
  | cons hb hA hL ih =>
    rename_i k ks b cb A L
    intro l res h
    cases h with
    | stop h =>
      rename_i t l
      have : t.1 ≠ b := fun e => h ((hb _).mpr e)
      show rdPs rp (k :: ks) b (t :: l) = .error t.2
      rw [rdPs, passT, if_neg this]
    | go h1 h2 h3 =>
      rename_i t l
      have e0 : passT b (t :: l) = .ok l := by rw [passT, if_pos h2]
      rcases scan_app h3 with ⟨c, g1, g2⟩ | ⟨r, g1, g2⟩
      · have e1 : rp k l = .error c := hA _ _ g1
        subst g2
        show rdPs rp (k :: ks) b (t :: l) = .error c
        rw [rdPs, e0]
        dsimp only
        rw [e1]
      · obtain ⟨p, e1⟩ : ∃ p, rp k l = .ok (p, r) := hA _ _ g1
        have e2 := ih g2
        cases res with
        | error c =>
          have e2 : rdPs rp ks "," r = .error c := e2
          show rdPs rp (k :: ks) b (t :: l) = .error c
          rw [rdPs, e0]
          dsimp only
          rw [e1]
          dsimp only
          rw [e2]
        | ok r2 =>
          obtain ⟨ps, e2⟩ : ∃ ps, rdPs rp ks "," r = .ok (ps, r2) := e2
          show ∃ ps, rdPs rp (k :: ks) b (t :: l) = .ok (ps, r2)
          refine ⟨p :: ps, ?_⟩
          rw [rdPs, e0]
          dsimp only
          rw [e1]
          dsimp only
          rw [e2]
theorem rdE_stop {rp : RP} {m : Bool} {t : Tok} {l : List Tok} (h : ¬ acc (.ex m) t.1) : rdE rp (t :: l) = .error t.2 := by
  have h1 : ¬ isI t.1 = true := fun g => h (.inl g)
  have h2 : ¬ isN t.1 = true := fun g => h (.inr (.inl g))
  have h3 : rows_EXPRESSION_PARTS.lookup t.1 = none := by
    cases e : rows_EXPRESSION_PARTS.lookup t.1 with
    | none => rfl
    | some ks =>
      have g : t.1 ∈ rows_EXPRESSION_PARTS.map (·.1) := List.mem_map.mpr ⟨(t.1, ks), mem_rows e, rfl⟩
      exact absurd (.inr (.inr (.inl g))) h
  rw [rdE, if_neg h1, if_neg h2, h3]
theorem rdC_stop {rp : RP} {m : Bool} {t : Tok} {l : List Tok} (h : ¬ acc (.te m) t.1) : rdC rp (t :: l) = .error t.2 := by
  have ht : t.1 ∉ tests := fun g => h (.inl g)
  have h1 : ¬ t.1 ∈ (["true", "false"] : List Str) := fun g => ht (by
    simp only [List.mem_cons, List.not_mem_nil, or_false] at g
    unfold tests
    rcases g with g | g <;> rw [g] <;> simp)
  have h2 : ¬ t.1 ∈ (["all", "any"] : List Str) := fun g => ht (by
    simp only [List.mem_cons, List.not_mem_nil, or_false] at g
    unfold tests
    rcases g with g | g <;> rw [g] <;> simp)
  have h3 : rows_CONDITION_PARTS.lookup t.1 = none := by
    cases e : rows_CONDITION_PARTS.lookup t.1 with
    | none => rfl
    | some ks =>
      refine absurd ?_ ht
      have hsub : ∀ z ∈ rows_CONDITION_PARTS.map (·.1), z ∈ tests := by decide +kernel
      exact hsub _ (List.mem_map.mpr ⟨(t.1, ks), mem_rows e, rfl⟩)
  rw [rdC, if_neg h1, if_neg h2, h3]
theorem rdE_node {rp : RP} {w : Str} {ks : List Str} {t : Tok} {l : List Tok} {res : Except Nat (List Tok)} (hw : t.1 = w) (h1 : isI w = false) (h2 : isN w = false) (h3 : rows_EXPRESSION_PARTS.lookup w = some ks) (h : RkL (rdPs rp ks "(" l) res) : Rk (rdE rp (t :: l)) res := by
  subst hw
  have e : rdE rp (t :: l) = match rdPs rp ks "(" l with
      | .error c => .error c
      | .ok (ps, r2) => .ok (.ex (mkI t.1 ps), r2) := by
    rw [rdE, if_neg (by rw [h1]; exact Bool.false_ne_true), if_neg (by rw [h2]; exact Bool.false_ne_true), h3] <;> rfl
  cases res with
  | error c =>
    have h : rdPs rp ks "(" l = .error c := h
    show rdE rp (t :: l) = .error c
    rw [e, h]
  | ok r =>
    obtain ⟨ps, h⟩ : ∃ ps, rdPs rp ks "(" l = .ok (ps, r) := h
    show ∃ p, rdE rp (t :: l) = .ok (p, r)
    exact ⟨.ex (mkI t.1 ps), by rw [e, h]⟩
theorem rdC_node {rp : RP} {w : Str} {ks : List Str} {t : Tok} {l : List Tok} {res : Except Nat (List Tok)} (hw : t.1 = w) (h1 : w ∉ (["true", "false"] : List Str)) (h2 : w ∉ (["all", "any"] : List Str)) (h3 : rows_CONDITION_PARTS.lookup w = some ks) (h : RkL (rdPs rp ks "(" l) res) : Rk (rdC rp (t :: l)) res := by
  subst hw
  have e : rdC rp (t :: l) = match rdPs rp ks "(" l with
      | .error c => .error c
      | .ok (ps, r2) => .ok (.ex (mkI t.1 ps), r2) := by
    rw [rdC, if_neg h1, if_neg h2, h3] <;> rfl
  cases res with
  | error c =>
    have h : rdPs rp ks "(" l = .error c := h
    show rdC rp (t :: l) = .error c
    rw [e, h]
  | ok r =>
    obtain ⟨ps, h⟩ : ∃ ps, rdPs rp ks "(" l = .ok (ps, r) := h
    show ∃ p, rdC rp (t :: l) = .ok (p, r)
    exact ⟨.ex (mkI t.1 ps), by rw [e, h]⟩
theorem rdC_grp {rp : RP} {w : Str} {t : Tok} {l : List Tok} {res : Except Nat (List Tok)} (hw : t.1 = w) (h1 : w ∉ (["true", "false"] : List Str)) (h2 : w ∈ (["all", "any"] : List Str)) (h : RkL (rdG rp l) res) : Rk (rdC rp (t :: l)) res := by
  subst hw
  have e : rdC rp (t :: l) = match rdG rp l with
      | .error c => .error c
      | .ok (ps, r2) => .ok (.ex (.grp t.1 (ps.map Pt.it)), r2) := by
    rw [rdC, if_neg h1, if_pos h2] <;> rfl
  cases res with
  | error c =>
    have h : rdG rp l = .error c := h
    show rdC rp (t :: l) = .error c
    rw [e, h]
  | ok r =>
    obtain ⟨ps, h⟩ : ∃ ps, rdG rp l = .ok (ps, r) := h
    show ∃ p, rdC rp (t :: l) = .ok (p, r)
    exact ⟨_, by rw [e, h]⟩
theorem wd_par2 {z : Str} (h : Wd z) : z ≠ ")" := fun e => by
  rw [e] at h
  exact absurd h (by decide +kernel)
theorem put_hd {xs : List Str} {B : Nat} {b : Bool} {i : It} (hx : ∀ x ∈ xs, Nam x) (h : Okx xs B b i) (dp : Nat) (m : Bool) : ∃ hw L, i.put dp m = (hw, cdOf b dp m) :: L ∧ hw ≠ ")" := by
  by_cases h0 : i.cls = 0
  · cases h with
    | num _ =>
      refine ⟨_, _, by rw [It.put], fun e => ?_⟩
      obtain ⟨c, r, e2, hc, _⟩ := itxt_num _
      rw [e, show tl (")" : Str) = [41] by decide +kernel] at e2
      cases e2
      rcases hc with h | h
      · omega
      · have := in_digs.mp h; omega
    | name hm =>
      exact ⟨_, _, by rw [It.put], fun e => wd_par2 (hx _ hm).wd e⟩
    | lit => exact ⟨_, _, by rw [It.put], by rename_i b; cases b <;> decide +kernel⟩
    | abs _ => cases h0
    | not _ => cases h0
    | dm _ _ _ _ => cases h0
    | bin _ _ _ => cases h0
    | cmp _ _ _ => cases h0
    | tri _ _ _ => cases h0
    | grp _ _ _ => cases h0
  · exact ⟨_, _, put_eq h h0 dp m, wd_par2 (word_wd h).1⟩
theorem row_of {w : Str} : (w ∈ (["add", "sub", "mul", "min", "max"] : List Str) → rows_EXPRESSION_PARTS.lookup w = some (["expression", "expression"] : List Str) ∧ isI w = false ∧ isN w = false) ∧ (w ∈ (["div", "mod"] : List Str) → rows_EXPRESSION_PARTS.lookup w = some (["expression", "divisor"] : List Str) ∧ isI w = false ∧ isN w = false) ∧
    (w ∈ (["less", "equal"] : List Str) → rows_CONDITION_PARTS.lookup w = some (["expression", "expression"] : List Str) ∧ w ∉ (["true", "false"] : List Str) ∧ w ∉ (["all", "any"] : List Str)) ∧ (w ∈ (["all", "any"] : List Str) → w ∉ (["true", "false"] : List Str)) := by
  refine ⟨?_, ?_, ?_, ?_⟩
  · revert w; decide +kernel
  · revert w; decide +kernel
  · revert w; decide +kernel
  · revert w; decide +kernel
theorem fix_rows : rows_EXPRESSION_PARTS.lookup ("abs" : Str) = some (["expression"] : List Str) ∧ isI "abs" = false ∧ isN "abs" = false ∧ rows_EXPRESSION_PARTS.lookup ("if" : Str) = some (["condition", "expression", "expression"] : List Str) ∧ isI "if" = false ∧ isN "if" = false ∧
    rows_CONDITION_PARTS.lookup ("not" : Str) = some (["condition"] : List Str) ∧ ("not" : Str) ∉ (["true", "false"] : List Str) ∧ ("not" : Str) ∉ (["all", "any"] : List Str) := by decide +kernel
def kdB (b : Bool) : Str := if b then "condition" else "expression"
theorem rdCs_scan {rp : RP} (hrp : RpOk rp) (dp : Nat) : ∀ (r : List It), (∀ j ∈ r, ∀ l res, Scan (j.put dp false) l res → Rk (rp "condition" l) res) → ∀ (fu : Nat) (l : List Tok) (res : Except Nat (List Tok)), l.length ≤ fu → Scan (putR r dp) l res → RkL (rdCs rp fu l) res
  | [], _, fu, l, res, hf, h => by
    rw [putR] at h
    cases h with
    | stop h =>
      rename_i t l
      obtain ⟨fu, rfl⟩ : ∃ f, fu = f + 1 := ⟨fu - 1, by rw [List.length_cons] at hf; omega⟩
      show rdCs rp (fu + 1) (t :: l) = .error t.2
      rw [rdCs, if_neg (fun e => h (.inl e)), if_neg (fun e => h (.inr e))]
    | go h1 h2 h3 =>
      rename_i t l
      obtain ⟨fu, rfl⟩ : ∃ f, fu = f + 1 := ⟨fu - 1, by rw [List.length_cons] at hf; omega⟩
      cases h3
      show ∃ ps, rdCs rp (fu + 1) (t :: l) = .ok (ps, l)
      exact ⟨[], by rw [rdCs, if_neg (by rw [h2]; decide +kernel), if_pos h2]⟩
  | a :: r, hr, fu, l, res, hf, h => by
    rw [putR] at h
    cases h with
    | stop h =>
      rename_i t l
      obtain ⟨fu, rfl⟩ : ∃ f, fu = f + 1 := ⟨fu - 1, by rw [List.length_cons] at hf; omega⟩
      show rdCs rp (fu + 1) (t :: l) = .error t.2
      rw [rdCs, if_neg (fun e => h (.inl e)), if_neg (fun e => h (.inr e))]
    | go h1 h2 h3 =>
      rename_i t l
      obtain ⟨fu, rfl⟩ : ∃ f, fu = f + 1 := ⟨fu - 1, by rw [List.length_cons] at hf; omega⟩
      rw [List.length_cons] at hf
      rcases scan_app h3 with ⟨c, g1, g2⟩ | ⟨l2, g1, g2⟩
      · have e1 : rp "condition" l = .error c := hr a List.mem_cons_self _ _ g1
        subst g2
        show rdCs rp (fu + 1) (t :: l) = .error c
        rw [rdCs, if_pos h2, e1]
      · obtain ⟨p, e1⟩ : ∃ p, rp "condition" l = .ok (p, l2) := hr a List.mem_cons_self _ _ g1
        have hlt := (hrp _ _ _ _ e1).1.lt
        have e2 := rdCs_scan hrp dp r (fun j hj => hr j (List.mem_cons_of_mem _ hj)) fu l2 res (by omega) g2
        cases res with
        | error c =>
          have e2 : rdCs rp fu l2 = .error c := e2
          show rdCs rp (fu + 1) (t :: l) = .error c
          rw [rdCs, if_pos h2, e1]
          dsimp only
          rw [e2]
        | ok r2 =>
          obtain ⟨ps, e2⟩ : ∃ ps, rdCs rp fu l2 = .ok (ps, r2) := e2
          show ∃ ps, rdCs rp (fu + 1) (t :: l) = .ok (ps, r2)
          refine ⟨p :: ps, ?_⟩
          rw [rdCs, if_pos h2, e1]
          dsimp only
          rw [e2]
theorem scan_en {rp : Nat} {n : Int} (hn : 1 ≤ n) (hb : n.natAbs < 10 ^ 60) (l : List Tok) (res : Except Nat (List Tok)) (h : Scan [(itxt n, Cd.en)] l res) : Rk (rdPt rp "divisor" l) res := by
  have e : ∀ l, rdPt rp "divisor" l = rdDv l := fun l => by cases rp <;> unfold rdPt <;> rw [if_pos rfl]
  cases h with
  | stop h =>
    rename_i t l
    show rdPt rp "divisor" (t :: l) = .error t.2
    rw [e, rdDv, if_neg (show ¬ (isI t.1 = true ∧ 1 ≤ ival t.1) from h)]
  | go h1 h2 h3 =>
    rename_i t l
    cases h3
    show ∃ p, rdPt rp "divisor" (t :: l) = .ok (p, l)
    exact ⟨_, by rw [e, rdDv, if_pos (show isI t.1 = true ∧ 1 ≤ ival t.1 by rw [h2]; exact h1)]⟩
theorem acc_opn (u : Str) : acc .opn u ↔ u = "(" := Iff.rfl
theorem acc_com (u : Str) : acc .com u ↔ u = "," := Iff.rfl
theorem scan_item {xs : List Str} {B : Nat} (hx : ∀ x ∈ xs, Nam x) (hB : B < 10 ^ 60 - 1) : ∀ (m dp : Nat), dp + m = 13 → ∀ {b : Bool} {i : It}, Okx xs B b i → ∀ (more : Bool) (l : List Tok) (res : Except Nat (List Tok)), Scan (i.put dp more) l res → Rk (rdPt m (kdB b) l) res
  | 0, dp, hdp, b, i, ho, more, l, res, h => by
    obtain ⟨hw, L, e, hne⟩ := put_hd hx ho dp more
    rw [e] at h
    have ec : cdOf b dp more = .no more := by unfold cdOf; rw [if_pos (by omega)]
    rw [ec] at h
    cases h with
    | stop h =>
      rename_i t l
      show rdPt 0 (kdB b) (t :: l) = .error t.2
      rw [rdPt, if_neg (by cases b <;> decide +kernel)] <;> rfl
    | go h1 h2 h3 => exact absurd h1.2 hne
  | m + 1, dp, hdp, b, i, ho, more, l, res, h => by
    have ih := fun {b' : Bool} {j : It} (hj : Okx xs B b' j) (mo : Bool) => scan_item hx hB m (dp + 1) (by omega) hj mo
    have ihE := fun {j : It} (hj : Okx xs B false j) (l : List Tok) (res : Except Nat (List Tok)) (h : Scan (j.put (dp + 1) false) l res) => (ih hj false l res h : Rk (rdPt m "expression" l) res)
    have ihC := fun {j : It} (hj : Okx xs B true j) (l : List Tok) (res : Except Nat (List Tok)) (h : Scan (j.put (dp + 1) false) l res) => (ih hj false l res h : Rk (rdPt m "condition" l) res)
    have ec : cdOf b dp more = if b = true then .te more else .ex more := by unfold cdOf; rw [if_neg (by omega)]
    have eE : ∀ l, rdPt (m + 1) (kdB false) l = rdE (rdPt m) l := fun l => by rw [rdPt, if_neg (by decide +kernel), if_pos (by decide +kernel)]
    have eC : ∀ l, rdPt (m + 1) (kdB true) l = rdC (rdPt m) l := fun l => by rw [rdPt, if_neg (by decide +kernel), if_neg (by decide +kernel)]
    obtain ⟨hw, L, ep, hne⟩ := put_hd hx ho dp more
    obtain ⟨f1, f2, f3, f4, f5, f6, f7, f8, f9⟩ := fix_rows
    -- the first token
    cases hl : l with
    | nil => rw [ep, hl] at h; cases h
    | cons t l' =>
    rw [hl, ep] at h
    by_cases hacc : acc (cdOf b dp more) t.1
    rotate_left
    · have : res = .error t.2 := by
        cases h with
        | stop _ => rfl
        | go h1 h2 _ => rw [← h2] at h1; exact absurd h1 hacc
      subst this
      rw [ec] at hacc
      cases b with
      | true => rw [eC]; exact rdC_stop hacc
      | false => rw [eE]; exact rdE_stop hacc
    obtain ⟨e0, hS⟩ : t.1 = hw ∧ Scan L l' res := by
      cases h with
      | stop h => exact absurd hacc h
      | go h1 h2 h3 => exact ⟨h2, h3⟩
    clear h
    cases ho with
    | num hn =>
      rw [It.put] at ep
      cases ep
      cases hS
      rw [eE]
      exact ⟨_, by rw [rdE, if_pos (by rw [e0]; exact isI_itxt (by omega))]⟩
    | name hm =>
      rw [It.put] at ep
      cases ep
      cases hS
      rw [eE]
      by_cases hi : isI t.1 = true
      · exact ⟨_, by rw [rdE, if_pos hi]⟩
      · exact ⟨_, by rw [rdE, if_neg hi, if_pos (by rw [e0]; exact isN_nam (hx _ hm))]⟩
    | lit =>
      rename_i bb
      rw [It.put] at ep
      cases ep
      cases hS
      rw [eC]
      exact ⟨_, by rw [rdC, if_pos (by rw [e0]; cases bb <;> decide +kernel)]⟩
    | abs ha =>
      rw [It.put] at ep
      obtain ⟨e1, rfl⟩ := List.cons.inj ep
      have e0 := e0.trans (congrArg Prod.fst e1).symm
      rw [eE]
      exact rdE_node e0 f2 f3 f1 (ps_scan (.cons acc_opn (ihE ha) (.nil _)) hS)
    | not ha =>
      rw [It.put] at ep
      obtain ⟨e1, rfl⟩ := List.cons.inj ep
      have e0 := e0.trans (congrArg Prod.fst e1).symm
      rw [eC]
      exact rdC_node e0 f8 f9 f7 (ps_scan (.cons acc_opn (ihC ha) (.nil _)) hS)
    | dm hw2 ha h1 h2 =>
      rw [It.put] at ep
      obtain ⟨e1, rfl⟩ := List.cons.inj ep
      have e0 := e0.trans (congrArg Prod.fst e1).symm
      obtain ⟨q1, q2, q3⟩ := row_of.2.1 hw2
      rw [eE]
      exact rdE_node e0 q2 q3 q1 (ps_scan (.cons acc_opn (ihE ha) (.cons (A := [(itxt _, Cd.en)]) acc_com (scan_en h1 (by omega)) (.nil _))) hS)
    | bin hw2 ha hb =>
      rw [It.put] at ep
      obtain ⟨e1, rfl⟩ := List.cons.inj ep
      have e0 := e0.trans (congrArg Prod.fst e1).symm
      obtain ⟨q1, q2, q3⟩ := row_of.1 hw2
      rw [eE]
      exact rdE_node e0 q2 q3 q1 (ps_scan (.cons acc_opn (ihE ha) (.cons acc_com (ihE hb) (.nil _))) hS)
    | cmp hw2 ha hb =>
      rw [It.put] at ep
      obtain ⟨e1, rfl⟩ := List.cons.inj ep
      have e0 := e0.trans (congrArg Prod.fst e1).symm
      obtain ⟨q1, q2, q3⟩ := row_of.2.2.1 hw2
      rw [eC]
      exact rdC_node e0 q2 q3 q1 (ps_scan (.cons acc_opn (ihE ha) (.cons acc_com (ihE hb) (.nil _))) hS)
    | tri ha hb hc =>
      rw [It.put] at ep
      obtain ⟨e1, rfl⟩ := List.cons.inj ep
      have e0 := e0.trans (congrArg Prod.fst e1).symm
      rw [eE]
      exact rdE_node e0 f5 f6 f4 (ps_scan (.cons acc_opn (ihC ha) (.cons acc_com (ihE hb) (.cons acc_com (ihE hc) (.nil _)))) hS)
    | grp hw2 hlen hall =>
      rename_i wg lg
      have q1 := row_of.2.2.2 hw2
      rw [eC]
      cases lg with
      | nil =>
        rw [It.put] at ep
        obtain ⟨e1, rfl⟩ := List.cons.inj ep
        have e0 := e0.trans (congrArg Prod.fst e1).symm
        refine rdC_grp e0 q1 hw2 ?_
        cases hS with
        | @stop _ _ _ t1 l1 h =>
          show rdG (rdPt m) (t1 :: l1) = .error t1.2
          rw [rdG, passT, if_neg (show ¬ t1.1 = "(" from h)]
        | @go _ _ _ t1 l1 _ h1 h2 h3 =>
          cases h3 with
          | @stop _ _ _ t2 l2 h =>
            have n2 : t2.1 ≠ ")" := fun e => h (by
              split
              · exact ⟨rfl, e⟩
              · exact .inr ⟨rfl, e⟩)
            show rdG (rdPt m) (t1 :: t2 :: l2) = .error t2.2
            have e3 : rdPt m "condition" (t2 :: l2) = .error t2.2 := by
              cases m with
              | zero =>
                rw [rdPt, if_neg (by decide +kernel)] <;> rfl
              | succ m =>
                rw [rdPt, if_neg (by decide +kernel), if_neg (by decide +kernel)]
                rw [if_neg (by omega)] at h
                exact rdC_stop h
            rw [rdG, passT, if_pos h2]
            dsimp only
            rw [if_neg n2, e3]
          | @go _ _ _ t2 l2 _ h4 h5 h6 =>
            cases h6
            show ∃ ps, rdG (rdPt m) (t1 :: t2 :: l2) = .ok (ps, l2)
            refine ⟨[], ?_⟩
            rw [rdG, passT, if_pos h2]
            dsimp only
            rw [if_pos h5]
      | cons a r =>
        rw [It.put] at ep
        obtain ⟨e1, rfl⟩ := List.cons.inj ep
        have e0 := e0.trans (congrArg Prod.fst e1).symm
        refine rdC_grp e0 q1 hw2 ?_
        cases hS with
        | @stop _ _ _ t1 l1 h =>
          show rdG (rdPt m) (t1 :: l1) = .error t1.2
          rw [rdG, passT, if_neg (show ¬ t1.1 = "(" from h)]
        | @go _ _ _ t1 l1 _ h1 h2 h3 =>
          obtain ⟨hw3, L3, e3, hne3⟩ := put_hd hx (hall a List.mem_cons_self) (dp + 1) true
          obtain ⟨t2, l2, el, hn2⟩ : ∃ t2 l2, l1 = t2 :: l2 ∧ t2.1 ≠ ")" := by
            rw [e3] at h3
            cases h3 with
            | @stop _ _ _ t2 l2 hh =>
              refine ⟨_, _, rfl, fun e => hh ?_⟩
              unfold cdOf
              split
              · exact ⟨rfl, e⟩
              · exact .inr ⟨rfl, e⟩
            | go h4 h5 h6 => exact ⟨_, _, rfl, by rw [h5]; exact hne3⟩
          have eG : rdG (rdPt m) (t1 :: l1) = match rdPt m "condition" l1 with
              | .error c => .error c
              | .ok (p, l3) => match rdCs (rdPt m) l3.length l3 with
                | .error c => .error c
                | .ok (ps, l4) => .ok (p :: ps, l4) := by
            rw [rdG, passT, if_pos h2, el]
            dsimp only
            rw [if_neg hn2] <;> rfl
          rcases scan_app h3 with ⟨c, g1, g2⟩ | ⟨l3, g1, g2⟩
          · have e1 : rdPt m "condition" l1 = .error c := ih (hall a List.mem_cons_self) true _ _ g1
            subst g2
            show rdG (rdPt m) (t1 :: l1) = .error c
            rw [eG, e1]
          · obtain ⟨p, e1⟩ : ∃ p, rdPt m "condition" l1 = .ok (p, l3) := ih (hall a List.mem_cons_self) true _ _ g1
            have e2 := rdCs_scan (rdPt_ok m) (dp + 1) r (fun j hj => ihC (hall j (List.mem_cons_of_mem _ hj))) l3.length l3 res (Nat.le_refl _) g2
            cases res with
            | error c =>
              have e2 : rdCs (rdPt m) l3.length l3 = .error c := e2
              show rdG (rdPt m) (t1 :: l1) = .error c
              rw [eG, e1]
              dsimp only
              rw [e2]
            | ok r2 =>
              obtain ⟨ps, e2⟩ : ∃ ps, rdCs (rdPt m) l3.length l3 = .ok (ps, r2) := e2
              show ∃ ps, rdG (rdPt m) (t1 :: l1) = .ok (ps, r2)
              refine ⟨p :: ps, ?_⟩
              rw [eG, e1]
              dsimp only
              rw [e2]
/-- the whole: at the first token that does not fit -/
theorem scan_whole {xs : List Str} {B : Nat} (hx : ∀ x ∈ xs, Nam x) (hB : B < 10 ^ 60 - 1) {b : Bool} {i : It} (ho : Okx xs B b i) {l : List Tok} {c : Nat} (h : Scan (i.put 1 false ++ [(("" : Str), Cd.fin)]) l (.error c)) : rdW (kdB b) l = .error c := by
  unfold rdW
  rcases scan_app h with ⟨c', g1, g2⟩ | ⟨r, g1, g2⟩
  · cases g2
    have e1 : rdPt 12 (kdB b) l = .error c := scan_item hx hB 12 1 rfl ho false _ _ g1
    rw [e1]
  · obtain ⟨p, e1⟩ : ∃ p, rdPt 12 (kdB b) l = .ok (p, r) := scan_item hx hB 12 1 rfl ho false _ _ g1
    rw [e1]
    dsimp only
    cases g2 with
    | stop h9 =>
      rename_i t9 l9
      rw [passT, if_neg (show ¬ t9.1 = "" from h9)]
    | go _ _ h3 => cases h3
/-- built from the places ahead of j -/
theorem scan_mk : ∀ (j : Nat) {L : List (Str × Cd)} {l : List Tok} {p : Str × Cd} {t : Tok}, (∀ k q, k < j → L[k]? = some q → acc q.2 q.1 ∧ ∃ u, l[k]? = some u ∧ u.1 = q.1) → L[j]? = some p → l[j]? = some t → ¬ acc p.2 t.1 → Scan L l (.error t.2)
  | 0, L, l, p, t, _, h1, h2, h3 => by
    cases L with
    | nil => simp at h1
    | cons q L =>
      cases l with
      | nil => simp at h2
      | cons u l =>
        cases Option.some.inj h1
        cases Option.some.inj h2
        exact .stop h3
  | j + 1, L, l, p, t, h, h1, h2, h3 => by
    cases L with
    | nil => simp at h1
    | cons q L =>
      cases l with
      | nil => simp at h2
      | cons u l =>
        obtain ⟨a1, v, hv, a2⟩ := h 0 q (by omega) rfl
        cases Option.some.inj hv
        exact .go a1 a2 (scan_mk j (fun k q hk e => by
          have := h (k + 1) q (by omega) (by simpa using e)
          simpa using this) (by simpa using h1) (by simpa using h2) h3)
end NL

namespace NL
open PySem PySem.Spec PyProof.Rows L2
/-! ### the text, its tokens, the first one that does not fit -/
theorem tk_prp {xs : List Str} {B : Nat} (hx : ∀ x ∈ xs, Nam x) (hB : B < 10 ^ 60 - 1) {b : Bool} {i : It} (h : Okx xs B b i) : ∀ t ∈ i.tk, Prp t ∧ t.length ≤ 300 := by
  have wdP : ∀ z : Str, tl z ≠ [] → Wd z → z.length ≤ 300 → Prp z ∧ z.length ≤ 300 := fun z h0 h hl => ⟨.inr (.inl ⟨h0, h⟩), hl⟩
  have intP : ∀ k : Int, k.natAbs < 10 ^ 60 → Prp (itxt k) ∧ (itxt k).length ≤ 300 := fun k hk => ⟨.inr (.inr ⟨k, rfl, hk⟩), by
    have := (int_read hk).2
    omega⟩
  have pnP : ∀ z, Pn z → Prp z ∧ z.length ≤ 300 := fun z h => ⟨.inl h, by rcases h with h | h | h <;> rw [h] <;> decide +kernel⟩
  refine kids_rec (p := fun i => ∀ t ∈ i.tk, Prp t ∧ t.length ≤ 300) (fun b i h h0 => ?_) (fun b i h h0 ih => ?_) h
  · cases h with
    | num hn =>
      rw [It.tk]
      intro t ht
      rw [List.mem_singleton.mp ht]
      exact intP _ (by omega)
    | name hm =>
      rw [It.tk]
      intro t ht
      rw [List.mem_singleton.mp ht]
      have hn := hx _ hm
      refine wdP _ (fun e => ?_) hn.wd (by have := hn.len; omega)
      have h1 := hn.len.1
      rw [← tl_len, e] at h1
      exact absurd h1 (by decide)
    | lit =>
      rename_i b
      rw [It.tk]
      intro t ht
      rw [List.mem_singleton.mp ht]
      cases b
      · exact wdP _ (by decide +kernel) (by decide +kernel) (by decide +kernel)
      · exact wdP _ (by decide +kernel) (by decide +kernel) (by decide +kernel)
    | abs _ => cases h0
    | not _ => cases h0
    | dm _ _ _ _ => cases h0
    | bin _ _ _ => cases h0
    | cmp _ _ _ => cases h0
    | tri _ _ _ => cases h0
    | grp _ _ _ => cases h0
  · have hw := (word_wd h).2
    have hwt := word_tk h
    rw [tk_pts h0]
    have hpt : ∀ p ∈ i.pts, ∀ t ∈ p.tk, Prp t ∧ t.length ≤ 300 := fun p hp t ht => by
      rcases pts_mem hp with ⟨j, hj, rfl⟩ | ⟨n, rfl⟩
      · exact ih j hj t ht
      · rw [List.mem_singleton.mp ht]
        have hn : n.natAbs ≤ B + 1 := by
          cases h with
          | dm _ _ _ h2 =>
            simp only [It.pts, List.mem_cons, List.not_mem_nil, or_false] at hp
            rcases hp with hp | hp
            · cases hp
            · cases hp; exact h2
          | num _ => cases hp
          | name _ => cases hp
          | lit => cases hp
          | abs _ => simp [It.pts] at hp
          | not _ => simp [It.pts] at hp
          | bin _ _ _ => simp [It.pts] at hp
          | cmp _ _ _ => simp [It.pts] at hp
          | tri _ _ _ => simp [It.pts] at hp
          | grp _ _ _ => simp [It.pts] at hp
        exact intP _ (by omega)
    have htl : ∀ l : List Pt, (∀ p ∈ l, ∀ t ∈ p.tk, Prp t ∧ t.length ≤ 300) → ∀ t ∈ tlP l, Prp t ∧ t.length ≤ 300 := fun l => by
      induction l with
      | nil => intro _ t ht; rw [List.mem_singleton.mp ht]; exact pnP _ pn_c
      | cons p r ihl =>
        intro hl t ht
        rcases List.mem_cons.mp ht with rfl | ht
        · exact pnP _ pn_k
        · rcases List.mem_append.mp ht with ht | ht
          · exact hl p List.mem_cons_self t ht
          · exact ihl (fun x hx => hl x (List.mem_cons_of_mem _ hx)) t ht
    intro t ht
    rcases List.mem_cons.mp ht with rfl | ht
    · exact wdP _ hwt.1 hwt.2 (by omega)
    · revert ht hpt
      generalize i.pts = l
      cases l with
      | nil =>
        intro _ ht
        rcases List.mem_cons.mp ht with rfl | ht
        · exact pnP _ pn_o
        · rw [List.mem_singleton.mp ht]; exact pnP _ pn_c
      | cons p r =>
        intro hpt ht
        rcases List.mem_cons.mp ht with rfl | ht
        · exact pnP _ pn_o
        · rcases List.mem_append.mp ht with ht | ht
          · exact hpt p List.mem_cons_self t ht
          · exact htl r (fun x hx => hpt x (List.mem_cons_of_mem _ hx)) t ht
theorem acc_nil {c : Cd} (h : c ≠ .fin) : ¬ acc c "" := Nev.acc ⟨isI_nil, isN_nil, by decide +kernel, by decide +kernel, by decide +kernel, by decide +kernel⟩ h
theorem alt_take : ∀ (k : Nat) {l : List Str}, Alt l → Alt (l.take k)
  | 0, l, _ => by rw [List.take_zero]; trivial
  | k + 1, [], _ => trivial
  | k + 1, [a], _ => by
    rw [List.take_succ_cons, List.take_nil]
    trivial
  | 1, a :: b :: r, h => trivial
  | k + 2, a :: b :: r, h => by
    have := alt_take (k + 1) (l := b :: r) h.2
    exact ⟨h.1, this⟩
theorem sep_of {t : Str} {tail : List Nat} (h : Prp t) (g : ∀ pre y, tl t = pre ++ [y] → ∀ x rest, tail = x :: rest → ¬ (y ∈ lets ∧ x ∈ lets) ∧ ¬ (y ∈ digs ∧ x ∈ digs)) : Sep t tail := by
  rcases h with h | ⟨h0, hw⟩ | ⟨n, rfl, hn⟩
  · exact .inl h
  · refine .inr (.inl ⟨h0, hw, fun x rest e hx => ?_⟩)
    have e2 := (List.dropLast_concat_getLast h0).symm
    exact (g _ _ e2 x rest e).1 ⟨in_lets.mpr (hw _ (List.getLast_mem h0)), hx⟩
  · refine .inr (.inr ⟨itxt_num n, fun x rest e hx => ?_⟩)
    obtain ⟨k, hk, hd, hm, _⟩ := itxt_parts n hn
    have hne : TL.numL n.natAbs ≠ [] := TL.numL_ne _
    have e2 : tl (itxt n) = (tl (itxt n)).take k ++ TL.numL n.natAbs := by
      rw [← hd, List.take_append_drop]
    have e3 := (List.dropLast_concat_getLast hne).symm
    rw [e3, ← List.append_assoc] at e2
    exact (g _ _ e2 x rest e).2 ⟨numL_digs _ (List.getLast_mem hne), hx⟩
theorem zip_get {ws : List Str} {ss : List Nat} (hl : ss.length = ws.length) {k : Nat} {w : Str} (h : ws[k]? = some w) : ∃ s, ss[k]? = some s ∧ (zipT ws ss)[k]? = some (w, s + 1) := by
  have hk := (List.getElem?_eq_some_iff.mp h).1
  refine ⟨ss[k]'(by omega), List.getElem?_eq_getElem (by omega), ?_⟩
  unfold zipT
  rw [List.getElem?_zipWith, h, List.getElem?_eq_getElem (by omega)]
theorem zip_len {ws : List Str} {ss : List Nat} (hl : ss.length = ws.length) : (zipT ws ss).length = ws.length := by
  unfold zipT
  rw [List.length_zipWith, hl, Nat.min_self]
def GoodT (L : List (Str × Cd)) (ws : List Str) (ss : List Nat) (a : Nat) (z : Str) (due : Nat) : Prop := z.length ≤ 9000000 ∧ ∃ ts, Toks ((tl z).drop (rn sp (tl z))) (rn sp (tl z)) ts ∧
  (∀ k w, k < a → ws[k]? = some w → ∃ s, ss[k]? = some s ∧ (endT z ts)[k]? = some (w, s + 1)) ∧ ∃ t, (endT z ts)[a]? = some t ∧ t.2 = due ∧ ∀ p, L[a]? = some p → ¬ acc p.2 t.1
theorem good_of {L : List (Str × Cd)} {ws : List Str} {ss : List Nat} {a : Nat} {z0 z : Str} {tail : List Nat} {tt : List Tok} {t : Tok} {due : Nat} (ha : a ≤ ws.length) (hL : LayS (ws.take a) (tl z0) 0 ss) (hp : ∀ t ∈ ws, Prp t) (hA : Alt ws) (hz : z.length ≤ 9000000) (ez : tl z = tl z0 ++ tail)
    (hE : ∀ pre t, tl z0 = pre ++ tl t → (ws.take a).getLast? = some t → Sep t tail) (hT : Toks (tail.drop (rn sp tail)) (z0.length + rn sp tail) tt) (h1 : (tt ++ [(("" : Str), z.length + 1)])[0]? = some t) (h2 : t.2 = due) (h3 : ∀ p, L[a]? = some p → ¬ acc p.2 t.1) : GoodT L ws ss a z due := by
  have hl := hL.len
  have hlt : (ws.take a).length = a := by rw [List.length_take]; omega
  have hT2 := layS_toks hL (fun t ht => prp_tk (hp t (List.mem_of_mem_take ht))) (alt_take a hA) tail tt hE (by rw [Nat.zero_add, tl_len]; exact hT)
  rw [← ez, Nat.zero_add] at hT2
  have hzl := zip_len hl
  refine ⟨hz, _, hT2, fun k w hk hw => ?_, t, ?_, h2, h3⟩
  · obtain ⟨s, e1, e2⟩ := zip_get hl (k := k) (w := w) (by rw [List.getElem?_take_of_lt hk]; exact hw)
    refine ⟨s, e1, ?_⟩
    unfold endT
    rw [List.append_assoc, List.getElem?_append_left (by rw [hzl, hlt]; exact hk)]
    exact e2
  · unfold endT
    rw [List.append_assoc, List.getElem?_append_right (by rw [hzl, hlt]; exact Nat.le_refl _), hzl, hlt, Nat.sub_self]
    exact h1
theorem good_a {L : List (Str × Cd)} {ws : List Str} {ss : List Nat} {a : Nat} {z : Str} (ha : a ≤ ws.length) (hL : LayS (ws.take a) (tl z) 0 ss) (hp : ∀ t ∈ ws, Prp t) (hA : Alt ws) (hz : z.length ≤ 9000000) (h3 : ∀ p, L[a]? = some p → p.2 ≠ .fin) : GoodT L ws ss a z (z.length + 1) :=
  good_of (tail := []) (tt := []) (t := ("", z.length + 1)) ha hL hp hA hz (by rw [List.append_nil]) (fun pre t _ ht => Sep.cut (prp_tk (hp t (List.mem_of_mem_take (List.mem_of_getLast? ht)))) fun c r e => by cases e) (.nil _) rfl rfl fun p hp' => acc_nil (h3 p hp')
theorem good_b {L : List (Str × Cd)} {ws : List Str} {ss : List Nat} {a : Nat} {z0 u R : Str} {r : Bool} {c : Cd} {w : Str} (ha : a ≤ ws.length) (hL : LayS (ws.take a) (tl z0) 0 ss) (hp : ∀ t ∈ ws, Prp t) (hA : Alt ws) (hu : Mis c u) (hc : L[a]? = some (w, c)) (hR : EndR (tl R))
    (hj : r = false → ∀ pre y x rest, tl z0 = pre ++ [y] → tl u = x :: rest → ¬ (y ∈ lets ∧ x ∈ lets) ∧ ¬ (y ∈ digs ∧ x ∈ digs)) (hz : ((if r = true then z0 ++ " " else z0) ++ u ++ R).length ≤ 9000000) :
    GoodT L ws ss a ((if r = true then z0 ++ " " else z0) ++ u ++ R) ((if r = true then z0 ++ " " else z0).length + 1) := by
  obtain ⟨x, y, eu, hx⟩ := hu.hd
  obtain ⟨q1, q2⟩ := hu.pc (tl R) hR
  have e32 : tl (" " : Str) = [32] := by decide +kernel
  have l32 : (" " : Str).length = 1 := by decide +kernel
  have ne : tl u ++ tl R ≠ [] := by rw [eu]; exact List.cons_ne_nil _ _
  have h0 : rn sp (tl u ++ tl R) = 0 := by
    rw [eu]
    exact rn_out fun h => hx (in_blank.mp h)
  have h3 : ∀ p, L[a]? = some p → ¬ acc p.2 (pieceOf (tl u ++ tl R)) := fun p hp' => by
    rw [hc] at hp'
    cases hp'
    exact q2
  cases r with
  | true =>
    obtain ⟨tt, ht⟩ := toks_ex _ (tl u ++ tl R) (z0.length + 1) (Nat.le_refl _)
    obtain ⟨tr, rfl⟩ := toks_head ht ne
    rw [if_pos rfl] at hz ⊢
    have h1 : rn sp (32 :: (tl u ++ tl R)) = 1 := by rw [rn_in (in_blank.mpr rfl), h0]
    refine good_of (tail := 32 :: (tl u ++ tl R)) (tt := (pieceOf (tl u ++ tl R), z0.length + 1 + 1) :: tr) (t := (pieceOf (tl u ++ tl R), z0.length + 1 + 1)) ha hL hp hA hz (by rw [tl_app, tl_app, tl_app, e32]; simp) (fun pre t _ ht => Sep.cut (prp_tk (hp t (List.mem_of_mem_take (List.mem_of_getLast? ht)))) fun c r e => ?_) ?_ rfl (by rw [len_app, l32]) h3
    · cases e
      exact ⟨fun h => by have := in_lets.mp h; omega, fun h => by have := in_digs.mp h; omega⟩
    · rw [h1]
      exact ht
  | false =>
    obtain ⟨tt, ht⟩ := toks_ex _ (tl u ++ tl R) z0.length (Nat.le_refl _)
    obtain ⟨tr, rfl⟩ := toks_head ht ne
    rw [if_neg Bool.false_ne_true] at hz ⊢
    refine good_of (tail := tl u ++ tl R) (tt := (pieceOf (tl u ++ tl R), z0.length + 1) :: tr) (t := (pieceOf (tl u ++ tl R), z0.length + 1)) ha hL hp hA hz (by rw [tl_app, tl_app, List.append_assoc]) (fun pre t e0 hlt => ?_) ?_ rfl rfl h3
    · refine sep_of (hp t (List.mem_of_mem_take (List.mem_of_getLast? hlt))) fun p2 y2 e2 x2 r2 e3 => ?_
      rw [eu] at e3
      cases e3
      exact hj rfl (pre ++ p2) y2 _ y (by rw [e0, e2, List.append_assoc]) eu
    · rw [h0, Nat.add_zero, List.drop_zero]
      exact ht
/-- the least place that its own token does not fit -/
def Fst (L : List (Str × Cd)) (F : Nat) : Prop := (F = L.length ∧ ∀ k p, k + 1 < L.length → L[k]? = some p → acc p.2 p.1) ∨ (F + 1 < L.length ∧ (∀ p, L[F]? = some p → ¬ acc p.2 p.1) ∧ ∀ k p, k < F → L[k]? = some p → acc p.2 p.1)
theorem good_end {xs : List Str} {B : Nat} (hx : ∀ x ∈ xs, Nam x) (hB : B < 10 ^ 60 - 1) {b : Bool} {i : It} (ho : Okx xs B b i) {L : List (Str × Cd)} (eL : L = i.put 1 false ++ [(("" : Str), Cd.fin)]) {ss : List Nat} {a F due : Nat} {z : Str} (ha : a < L.length) (hF : Fst L F) (hG : GoodT L i.tk ss a z due) :
    ∃ ts, Toks ((tl z).drop (rn sp (tl z))) (rn sp (tl z)) ts ∧ (F < a → ∃ s, ss[F]? = some s ∧ rdW (kdB b) (endT z ts) = .error (s + 1)) ∧ (¬ F < a → rdW (kdB b) (endT z ts) = .error due) := by
  obtain ⟨hz, ts, hT, h1, t, h2, h3, h4⟩ := hG
  have hlp := put_len ho 1 false
  have hll : L.length = i.tk.length + 1 := by rw [eL, List.length_append, hlp]; rfl
  have word : ∀ k q, k < a → L[k]? = some q → i.tk[k]? = some q.1 := fun k q hk e => by
    rw [eL, List.getElem?_append_left (by omega)] at e
    rw [← put_fst ho 1 false, List.getElem?_map, e]
    rfl
  have pre : ∀ j, j ≤ a → (∀ k q, k < j → L[k]? = some q → acc q.2 q.1) → ∀ k q, k < j → L[k]? = some q → acc q.2 q.1 ∧ ∃ u, (endT z ts)[k]? = some u ∧ u.1 = q.1 := fun j hj hac k q hk e => by
    obtain ⟨s, _, e2⟩ := h1 k q.1 (by omega) (word k q (by omega) e)
    exact ⟨hac k q hk e, _, e2, rfl⟩
  refine ⟨ts, hT, fun hFa => ?_, fun hFa => ?_⟩
  · rcases hF with ⟨e, _⟩ | ⟨f1, f2, f3⟩
    · omega
    · obtain ⟨p, hp⟩ : ∃ p, L[F]? = some p := ⟨_, List.getElem?_eq_getElem (by omega)⟩
      obtain ⟨s, e1, e2⟩ := h1 F p.1 hFa (word F p hFa hp)
      refine ⟨s, e1, ?_⟩
      have := scan_mk F (t := (p.1, s + 1)) (pre F (by omega) f3) hp e2 (f2 p hp)
      rw [eL] at this
      exact scan_whole hx hB ho this
  · obtain ⟨p, hp⟩ : ∃ p, L[a]? = some p := ⟨_, List.getElem?_eq_getElem ha⟩
    have hac : ∀ k q, k < a → L[k]? = some q → acc q.2 q.1 := fun k q hk e => by
      rcases hF with ⟨_, f⟩ | ⟨f1, f2, f3⟩
      · exact f k q (by omega) e
      · exact f3 k q (by omega) e
    have := scan_mk a (pre a (Nat.le_refl _) hac) hp h2 (h4 p hp)
    rw [h3, eL] at this
    exact scan_whole hx hB ho this
theorem join_sp : ∀ (l : List Str), (∀ t ∈ l, t.length ≤ 300) → (Txt.join " " l).length ≤ 301 * l.length := fun l h => by
  have key : ∀ l : List Str, (∀ t ∈ l, t.length ≤ 300) → (Str.join " " l).length ≤ 301 * l.length := fun l => by
    induction l with
    | nil => intro _; decide +kernel
    | cons a r ih =>
      intro h
      have ha := h a List.mem_cons_self
      cases r with
      | nil =>
        show a.length ≤ _
        rw [List.length_singleton]; omega
      | cons b r =>
        have := ih fun t ht => h t (List.mem_cons_of_mem _ ht)
        have e : Str.join " " (a :: b :: r) = a ++ " " ++ Str.join " " (b :: r) := rfl
        rw [e, len_app, len_app, List.length_cons]
        have l1 : (" " : Str).length = 1 := by decide +kernel
        omega
  rw [TL.join_eq]
  exact key l h
theorem put_nofin {xs : List Str} {B : Nat} {b : Bool} {i : It} (h : Okx xs B b i) : ∀ (dp : Nat) (m : Bool), ∀ p ∈ i.put dp m, p.2 ≠ .fin := by
  have hcd : ∀ (t : Bool) (dp : Nat) (m : Bool), cdOf t dp m ≠ .fin := fun t dp m => by
    unfold cdOf
    split
    · exact fun h => nomatch h
    · split <;> exact fun h => nomatch h
  refine kids_rec (p := fun i => ∀ (dp : Nat) (m : Bool), ∀ p ∈ i.put dp m, p.2 ≠ .fin) (fun b i h h0 => ?_) (fun b i h h0 ih => ?_) h
  · intro dp m p hp
    cases h with
    | num _ => rw [It.put] at hp; rw [List.mem_singleton.mp hp]; exact hcd _ _ _
    | name _ => rw [It.put] at hp; rw [List.mem_singleton.mp hp]; exact hcd _ _ _
    | lit => rw [It.put] at hp; rw [List.mem_singleton.mp hp]; exact hcd _ _ _
    | abs _ => cases h0
    | not _ => cases h0
    | dm _ _ _ _ => cases h0
    | bin _ _ _ => cases h0
    | cmp _ _ _ => cases h0
    | tri _ _ _ => cases h0
    | grp _ _ _ => cases h0
  · intro dp m p hp
    rw [put_eq h h0, tailP_eq h0] at hp
    have hcc : ∀ o, cc o ≠ .fin := fun o => by cases o <;> exact fun h => nomatch h
    have hla : i.lastC dp ≠ .fin := by
      unfold It.lastC
      split
      · split <;> exact fun h => nomatch h
      · split <;> exact fun h => nomatch h
    have hq : ∀ p ∈ i.tailQ, p.2 ≠ .fin := fun p hp => by
      cases i with
      | dm w x n =>
        simp only [It.tailQ, List.mem_cons, List.not_mem_nil, or_false] at hp
        rcases hp with hp | hp <;> rw [hp] <;> exact fun h => nomatch h
      | _ => cases hp
    rcases List.mem_cons.mp hp with e | hp
    · rw [e]; exact hcd _ _ _
    rcases List.mem_cons.mp hp with e | hp
    · rw [e]; exact fun h => nomatch h
    rcases List.mem_append.mp hp with hp | hp
    · revert hp ih
      generalize i.kids = l
      cases l with
      | nil => intro _ hp; cases hp
      | cons a r =>
        intro ih hp
        have hp : p ∈ a.put (dp + 1) (i.cls == 1) ++ r.flatMap fun b => (((("," : Str)), cc (i.cls == 1)) :: b.put (dp + 1) false) := hp
        rcases List.mem_append.mp hp with hp | hp
        · exact ih a List.mem_cons_self _ _ p hp
        · obtain ⟨j, hj, hp⟩ := List.mem_flatMap.mp hp
          rcases List.mem_cons.mp hp with e | hp
          · rw [e]; exact hcc _
          · exact ih j (List.mem_cons_of_mem _ hj) _ _ p hp
    · rcases List.mem_append.mp hp with hp | hp
      · exact hq p hp
      · rw [List.mem_singleton.mp hp]; exact hla
end NL

namespace NL
open PySem PySem.Spec PyProof.Rows L2
/-! ### the law -/
def spLaw (K : PySem.W.Frag) : Sp := fun vs H Q _ => ∃ (a : Addr) (ns : List Int), vs = [.ref a] ∧ SqL K H a (ns.map V.int) ∧ ns.length ≤ 63 ∧ ∀ H', Q (.bl true) H'
theorem cut_pre {xs : List V} {k : Nat} : cutV xs none (some (k : Int)) = xs.take k := by
  unfold cutV
  rw [HT.sIx_none, show HT.sIx xs.length xs.length (some (k : Int)) = min k xs.length from HT.sIx_nat _ _ _, List.drop_zero, Nat.sub_zero]
  by_cases h : k ≤ xs.length
  · rw [Nat.min_eq_left h]
  · rw [Nat.min_eq_right (by omega), List.take_length, List.take_of_length_le (by omega)]
theorem cut_init {xs : List V} : cutV xs none (some (-1)) = xs.take (xs.length - 1) := by
  unfold cutV
  rw [HT.sIx_none, show HT.sIx xs.length xs.length (some (-1)) = xs.length - 1 by
    show (if (-1 : Int) < 0 then ((-1 : Int) + (xs.length : Int)).toNat else min (-1 : Int).toNat xs.length) = xs.length - 1
    rw [if_pos (by decide)]
    omega, List.drop_zero, Nat.sub_zero]
theorem cut_strs (xs : List Str) (lo hi : Option Int) : ∃ ys : List Str, cutV (xs.map V.str) lo hi = ys.map V.str ∧ (∀ y ∈ ys, y ∈ xs) ∧ ys.length ≤ xs.length := by
  unfold cutV
  refine ⟨((xs.drop (HT.sIx (xs.map V.str).length 0 lo)).take (HT.sIx (xs.map V.str).length (xs.map V.str).length hi - HT.sIx (xs.map V.str).length 0 lo)), by rw [List.map_take, List.map_drop], fun y hy => List.mem_of_mem_drop (List.mem_of_mem_take hy), ?_⟩
  rw [List.length_take, List.length_drop]
  omega
theorem app_as (a b c : Str) : (a ++ b) ++ c = a ++ (b ++ c) := str_ext (by rw [app_list, app_list, app_list, app_list, List.append_assoc])
theorem app_no (a : Str) : a ++ "" = a := str_ext (by rw [app_list, show ("" : Str).cps.toList = [] by decide +kernel, List.append_nil])
theorem sum_len (l : List Str) (h : ∀ t ∈ l, t.length ≤ 300) : (l.map fun t => t.length).sum ≤ 300 * l.length := by
  induction l with
  | nil => exact Nat.zero_le _
  | cons a r ih =>
    have h1 := h a List.mem_cons_self
    have h2 := ih fun t ht => h t (List.mem_cons_of_mem _ ht)
    rw [List.map_cons, List.sum_cons, List.length_cons]
    omega
theorem go_but {d q : Addr} {H H' : Hp} (hD : Dr H d) (hq : H q = none) (b : ∀ c o, c ≠ q → H c = some o → H' c = some o) : Go d H H' := by
  obtain ⟨ns, e⟩ := hD
  have fr : ∀ c o, H c = some o → H' c = some o := fun c o e => b c o (ne_of_none e hq) e
  exact ⟨fun c o _ e => fr c o e, ns, fr _ _ e⟩
section
variable {P : Program} {w : World} {K : PySem.W.Frag} {mg : Str → Option Value} {base : Heap}
theorem ok_law (T : Txt K mg) (D : Dic K w mg) (EX : Exs K mg) : FnOk P w K mg base CX0 50 T.alaw T.dlaw Plaw (spLaw K) := by
  have hB : 100 ≤ 10 ^ 60 - 2 := by decide
  have hB1 : 10 ^ 60 - 2 < 10 ^ 60 - 1 := by decide
  have G_law_draws := ok_law_draws (P := P) (w := w) (base := base) T
  have G_law_cell := ok_law_cell (P := P) (w := w) (base := base) T
  have G_law_take := ok_law_take (P := P) (w := w) (base := base) T
  have G_law_great := ok_law_great (P := P) (w := w) (base := base) T
  have G_law_names := ok_law_names (P := P) (w := w) (base := base) T
  have G_law_text_item := ok_law_text_item (P := P) (w := w) (base := base) hB T
  have G_law_depth := ok_law_depth (P := P) (w := w) (base := base) T 12
  have G_law_leaf := ok_law_leaf (P := P) (w := w) (base := base) hB T
  have G_law_around := ok_law_around (P := P) (w := w) (base := base) T
  have G_law_put := ok_law_put (P := P) (w := w) (base := base) T 15
  have G_law_fits := ok_law_fits (P := P) (w := w) (base := base) T
  have G_law_spaced := ok_law_spaced (P := P) (w := w) (base := base) T
  have G_law_pattern := ok_law_pattern (P := P) (w := w) (base := base) T
  have G_law_misfit := ok_law_misfit (P := P) (w := w) (base := base) T
  have G_law_gap := ok_law_gap (P := P) (w := w) (base := base) T
  have G_law_is_test := ok_law_is_test (P := P) (w := w) (base := base) T
  have G_law_refused := ok_law_refused (P := P) (base := base) T D EX
  refine T.Flaw.ok sclaw (fun vs H Q E h => ?_) (fun cdv A outer s H vs Q E hr h => ?_)
  · obtain ⟨a, ns, rfl, _⟩ := h
    rfl
  obtain ⟨a, ns, rfl, hS, hl, q⟩ := h
  refine ⟨_, (pss_cons (ps_set (i := 1) sclaw.nd rfl (Or.inl rfl) (pe_call G_law_draws (hr.mono (by omega)) (by rfl) T.m_law_draws T.F_law_draws.kp T.b_law_draws .nil pass0 (pa_cons (pv 0) (pa_cons pe_int pa_nil))))
    (pss_cons (ps_set (i := 2) sclaw.nd rfl (Or.inl rfl) (pe_call G_law_great (hr.mono (by omega)) (by rfl) T.m_law_great T.F_law_great.kp T.b_law_great .nil pass0 (pa_cons (pv 1) (pa_cons (pe_call G_law_cell (hr.mono (by omega)) (by rfl) T.m_law_cell T.F_law_cell.kp T.b_law_cell .nil pass0 (pa_cons (pv 0) (pa_cons (pv 1) pa_nil))) pa_nil))))
    (pss_cons (ps_set (i := 3) sclaw.nd rfl (Or.inl rfl) (pe_call G_law_names (hr.mono (by omega)) (by rfl) T.m_law_names T.F_law_names.kp T.b_law_names .nil pass0 (pa_cons (pv 1) (pa_cons pe_int pa_nil))))
    (pss_cons (ps_set (i := 4) sclaw.nd rfl (Or.inl rfl) (pe_call G_law_text_item (hr.mono (by omega)) (by rfl) T.m_law_text_item T.F_law_text_item.kp T.b_law_text_item .nil pass0 (pa_cons (pv 1) (pa_cons (pv 3) (pa_cons (pv 2) pa_nil)))))
    (C8.pss_cut (ps_if (pt_cmpR op_eq (pe_call G_law_take (hr.mono (by omega)) (by rfl) T.m_law_take T.F_law_take.kp T.b_law_take .nil pass0 (pa_cons (pv 1) (pa_cons pe_int pa_nil))) pe_int (nomark _))
    (pss_cons (ps_set (i := 5) sclaw.nd rfl (Or.inl rfl) (pe_op op_add (pe_op op_sub pe_int (pe_call G_law_depth (hr.mono (by omega)) (by rfl) T.m_law_depth T.F_law_depth.kp T.b_law_depth .nil pass0 (pa_cons (pv 4) pa_nil))) (pe_call G_law_take (hr.mono (by omega)) (by rfl) T.m_law_take T.F_law_take.kp T.b_law_take .nil pass0 (pa_cons (pv 1) (pa_cons pe_int pa_nil)))))
    (pss_one (ps_set (i := 4) sclaw.nd rfl (Or.inl rfl) (pe_call G_law_around (hr.mono (by omega)) (by rfl) T.m_law_around T.F_law_around.kp T.b_law_around .nil pass0 (pa_cons (pv 4) (pa_cons (pe_call G_law_leaf (hr.mono (by omega)) (by rfl) T.m_law_leaf T.F_law_leaf.kp T.b_law_leaf .nil pass0 (pa_cons (pv 1) (pa_cons (pv 3) (pa_cons (pv 2) pa_nil)))) (pa_cons (pv 5) (pa_cons (pe_call G_law_take (hr.mono (by omega)) (by rfl) T.m_law_take T.F_law_take.kp T.b_law_take .nil pass0 (pa_cons (pv 1) (pa_cons pe_int pa_nil))) pa_nil))))))))
    pss_nil)
    (pss_cons (ps_set (i := 6) sclaw.nd rfl (Or.inr rfl) (pe_lst pa_nil))
    (pss_cons (ps_expr (pe_call G_law_put (hr.mono (by omega)) (by rfl) T.m_law_put T.F_law_put.kp T.b_law_put .nil pass0 (pa_cons (pv 6) (pa_cons (pv 4) (pa_cons pe_int (pa_cons pe_str pa_nil))))))
    (pss_cons (ps_expr (pe_bm PySem.F.plainAttrs_list PySem.F.slot_list_append PySem.F.type_list_append mt_append (pv 6) (pa_cons (pe_tup (pa_cons pe_str (pa_cons pe_str pa_nil))) pa_nil)))
    (pss_cons (ps_set (i := 7) sclaw.nd rfl (Or.inl rfl) (pe_op op_cat (pe_lc (own := [("k", 8)]) (g := (gName 8)) (tt := _) rfl sclaw.nd (pi_range1 (by rfl) T.z_range (pa_cons (pe_op op_sub (pe_callB call_len_seq (by rfl) T.z_len PySem.boot_len (pa_cons (pv 6) pa_nil)) pe_int) pa_nil)) (blkOk_by (N := Nlaw) (sc := defScope slaw) (by decide +kernel)) (fun _ _ _ _ _ => (pg_name (i := 8) sclaw.nd rfl (Or.inl rfl))) (fun _ _ _ _ _ => (pts_one (pt_not (pt_val (pe_call G_law_fits (hr.mono (by omega)) (by rfl) T.m_law_fits T.F_law_fits.kp T.b_law_fits .nil pass0 (pa_cons (pe_ix (ix_tupK (K := K) rfl) (pe_ix (ix_listK (K := K) rfl) (pv 6) (pv 8) (fun _ _ => rfl)) pe_int (fun _ _ => rfl)) (pa_cons (pe_ix (ix_tupK (K := K) rfl) (pe_ix (ix_listK (K := K) rfl) (pv 6) (pv 8) (fun _ _ => rfl)) pe_int (fun _ _ => rfl)) pa_nil))))))) (fun _ _ _ _ _ => (pv 8))) (pe_lst (pa_cons (pe_callB call_len_seq (by rfl) T.z_len PySem.boot_len (pa_cons (pv 6) pa_nil)) pa_nil))))
    (pss_cons (ps_set (i := 9) sclaw.nd rfl (Or.inl rfl) (pe_call G_law_take (hr.mono (by omega)) (by rfl) T.m_law_take T.F_law_take.kp T.b_law_take .nil pass0 (pa_cons (pv 1) (pa_cons (pe_callB call_len_seq (by rfl) T.z_len PySem.boot_len (pa_cons (pv 6) pa_nil)) pa_nil))))
    (pss_cons (ps_setLc (i := 10) (own := [("k", 8)]) (g := (gName 8)) (tt := _) rfl sclaw.nd rfl rfl (sw_true rfl rfl rfl (by decide +kernel)) (pi_range1 (by rfl) T.z_range (pa_cons (pe_callB call_len_seq (by rfl) T.z_len PySem.boot_len (pa_cons (pv 6) pa_nil)) pa_nil)) (blkOk_by (N := Nlaw) (sc := defScope slaw) (by decide +kernel)) (fun _ _ _ _ _ => (pg_name (i := 8) sclaw.nd rfl (Or.inl rfl))) (fun _ _ _ _ _ => (pts_one (pt_cmpR op_eq (pe_ix (ix_tupK (K := K) rfl) (pe_ix (ix_listK (K := K) rfl) (pv 6) (pv 8) (fun _ _ => rfl)) pe_int (fun _ _ => rfl)) pe_str (nomark _)))) (fun _ _ _ _ _ => (pv 8)))
    (C8.pss_cut (ps_if (PW.pt (pw_and (pt_cmpR op_gt (pe_callB call_len_seq (by rfl) T.z_len PySem.boot_len (pa_cons (pv 10) pa_nil)) pe_int (nomark _)) (pw_and1 (pt_cmpR op_eq (pe_call G_law_take (hr.mono (by omega)) (by rfl) T.m_law_take T.F_law_take.kp T.b_law_take .nil pass0 (pa_cons (pv 1) (pa_cons pe_int pa_nil))) pe_int (nomark _)))))
    (pss_one (ps_set (i := 9) sclaw.nd rfl (Or.inl rfl) (pe_ix ix_list (pv 10) (pe_call G_law_take (hr.mono (by omega)) (by rfl) T.m_law_take T.F_law_take.kp T.b_law_take .nil pass0 (pa_cons (pv 1) (pa_cons (pe_callB call_len_seq (by rfl) T.z_len PySem.boot_len (pa_cons (pv 10) pa_nil)) pa_nil))) (fun _ _ => rfl))))
    pss_nil)
    (pss_cons (ps_setLc (i := 11) (own := [("place", 12)]) (g := (gName 12)) (tt := tYes) rfl sclaw.nd rfl rfl (sw_true rfl rfl rfl (by decide +kernel)) (pi_list (pe_slice sl_list (pv 6) po_none (po_some (pe_un un_neg pe_int)))) (blkOk_by (N := Nlaw) (sc := defScope slaw) (by decide +kernel)) (fun _ _ _ _ _ => (pg_name (i := 12) sclaw.nd rfl (Or.inl rfl))) (fun _ _ _ _ _ => pts_nil) (fun _ _ _ _ _ => (pe_ix (ix_tupK (K := K) rfl) (pv 12) pe_int (fun _ _ => rfl))))
    (pss_cons (ps_set (i := 13) sclaw.nd rfl (Or.inl rfl) (pe_lst pa_nil))
    (pss_cons (ps_set (i := 14) sclaw.nd rfl (Or.inl rfl) (pe_call G_law_spaced (hr.mono (by omega)) (by rfl) T.m_law_spaced T.F_law_spaced.kp T.b_law_spaced .nil pass0 (pa_cons (pe_slice sl_list (pv 11) po_none (po_some (pv 9))) (pa_cons (pe_call G_law_pattern (hr.mono (by omega)) (by rfl) T.m_law_pattern T.F_law_pattern.kp T.b_law_pattern .nil pass0 (pa_cons (pv 1) (pa_cons (pv 2) pa_nil))) (pa_cons (pv 13) pa_nil)))))
    (pss_cons (ps_set (i := 15) sclaw.nd rfl (Or.inl rfl) (pe_op op_add (pe_callB call_len_str (by rfl) T.z_len PySem.boot_len (pa_cons (pv 14) pa_nil)) pe_int))
    (C8.pss_cut (ps_if (PW.pt (pw_or (pt_cmpR op_eq (pv 9) (pe_callB call_len_seq (by rfl) T.z_len PySem.boot_len (pa_cons (pv 11) pa_nil)) (nomark _)) (pw_or1 (pt_cmpR op_gt (pe_call G_law_take (hr.mono (by omega)) (by rfl) T.m_law_take T.F_law_take.kp T.b_law_take .nil pass0 (pa_cons (pv 1) (pa_cons pe_int pa_nil))) pe_int (nomark _)))))
    (pss_cons (ps_set (i := 16) sclaw.nd rfl (Or.inl rfl) (pe_call G_law_misfit (hr.mono (by omega)) (by rfl) T.m_law_misfit T.F_law_misfit.kp T.b_law_misfit .nil pass0 (pa_cons (pv 1) (pa_cons (pe_ix ix_tup (pe_ix ix_list (pv 6) (pv 9) (fun _ _ => rfl)) pe_int (fun _ _ => rfl)) (pa_cons (pv 3) (pa_cons (pv 2) pa_nil))))))
    (pss_cons (ps_set (i := 14) sclaw.nd rfl (Or.inl rfl) (pe_call G_law_gap (hr.mono (by omega)) (by rfl) T.m_law_gap T.F_law_gap.kp T.b_law_gap .nil pass0 (pa_cons (pv 14) (pa_cons (pv 16) pa_nil))))
    (pss_cons (ps_set (i := 15) sclaw.nd rfl (Or.inl rfl) (pe_op op_add (pe_callB call_len_str (by rfl) T.z_len PySem.boot_len (pa_cons (pv 14) pa_nil)) pe_int))
    (pss_cons (ps_set (i := 14) sclaw.nd rfl (Or.inl rfl) (pe_op op_add_str (pv 14) (pv 16)))
    (pss_one (ps_if (pt_cmpR op_eq (pe_call G_law_take (hr.mono (by omega)) (by rfl) T.m_law_take T.F_law_take.kp T.b_law_take .nil pass0 (pa_cons (pv 1) (pa_cons pe_int pa_nil))) pe_int (nomark _))
    (pss_one (ps_set (i := 14) sclaw.nd rfl (Or.inl rfl) (pe_op op_add_str (pe_op op_add_str (pv 14) pe_str) (pe_join pe_str (pe_slice sl_list (pv 11) (po_some (pe_op op_add (pv 9) (pe_call G_law_take (hr.mono (by omega)) (by rfl) T.m_law_take T.F_law_take.kp T.b_law_take .nil pass0 (pa_cons (pv 1) (pa_cons pe_int pa_nil))))) po_none)))))
    pss_nil))))))
    pss_nil)
    (C8.pss_cut (ps_if (pt_cmpR op_lt (pe_ix ix_list (pv 7) pe_int (fun _ _ => rfl)) (pv 9) (nomark _))
    (pss_one (ps_set (i := 15) sclaw.nd rfl (Or.inl rfl) (pe_op op_add (pe_ix ix_list (pv 13) (pe_ix ix_list (pv 7) pe_int (fun _ _ => rfl)) (fun _ _ => rfl)) pe_int)))
    pss_nil)
    (pss_one (ps_ret (pe_call G_law_refused (hr.mono (by omega)) (by rfl) T.m_law_refused T.F_law_refused.kp T.b_law_refused .nil pass0 (pa_cons (pe_call G_law_is_test (hr.mono (by omega)) (by rfl) T.m_law_is_test T.F_law_is_test.kp T.b_law_is_test .nil pass0 (pa_cons (pv 4) pa_nil)) (pa_cons (pv 14) (pa_cons (pv 15) pa_nil)))))))))))))))))))))))), ?_⟩
  refine ⟨_, rfl, a, ns, 330, rfl, hS, hl, by decide, by decide, fun d H1 s1 hd D1 => ?_⟩
  have hk := Keep.old hS hd s1
  refine ⟨_, rfl, _, rfl, _, rfl, a, d, ns, rfl, hk, D1, fun c0 H2 g2 _ => ?_⟩
  refine ⟨d, c0, rfl, g2.dr, fun c H3 g3 hc => ?_⟩
  refine ⟨_, rfl, d, 4, rfl, g3.dr, by decide, by decide, fun n xs H4 g4 _ hn e4 hx _ _ hne => ?_⟩
  have hkn : Keep K d H4 n (xs.map V.str) := .of hn e4
  have hxw : ∀ x ∈ xs, Nw x := fun x h => (hx x h).nw
  have hc60 : c.natAbs < 10 ^ 60 := Nat.lt_of_le_of_lt hc (by decide)
  refine ⟨_, rfl, _, rfl, _, rfl, d, n, xs, c, rfl, g4.dr, hkn, hc, fun v0 i0 b0 H5 g5 hi0 ho0 hd0 hs0 => ?_⟩
  refine ⟨fun σ H' => ∃ (v : V) (i : It) (b : Bool) (y5 : Option V), σ = [some (.ref a), some (.ref d), some (.int c), some (.ref n), some v, y5, none, none, none, none, none, none, none, none, none, none, none] ∧ Go d H4 H' ∧ ItemIn H' i v ∧ Okx xs (10 ^ 60 - 2) b i ∧ i.dep ≤ 15 ∧ i.sz ≤ 1000, ?_, ?_⟩
  · refine ⟨_, rfl, d, _, rfl, g5.dr, (by decide), fun r6 H6 g6 _ _ => ?_⟩
    refine ⟨rfl, _, rfl, ?_⟩
    refine ite2 (fun c6 => ?_) (fun c6 => ?_)
    · have hi6 := hi0.go g6 g5.dr
      refine ⟨_, rfl, v0, i0, xs, _, b0, rfl, hi6, ho0, hd0, fun H7 s7 => ?_⟩
      have g7 := g6.trans (Go.same g6.dr s7)
      refine ⟨_, _, rfl, rfl, _, rfl, d, _, rfl, g7.dr, (by decide), fun r8 H8 g8 a0 a1 => ?_⟩
      refine ⟨_, _, rfl, rfl, ?_⟩
      have g58 := g7.trans g8
      refine ⟨_, rfl, _, rfl, _, rfl, _, rfl, d, n, xs, c, rfl, g8.dr, hkn.go (g5.trans g58), hc, fun sv si H9 g9 hsi hso hsd hsz => ?_⟩
      refine ⟨_, rfl, _, rfl, d, _, rfl, g9.dr, (by decide), fun t Ha ga t0 t1 => ?_⟩
      have g5a := g58.trans (g9.trans ga)
      have hp := dep_pos i0
      refine ⟨v0, sv, i0, si, xs, _, b0, _, t, rfl, hi0.go g5a g5.dr, ho0, hsi.go ga g9.dr, hso, hsd, hsz, hB, ?_, ?_, fun v' i' b' Hb sb hi' ho' hd' hs' => ?_⟩
      · show -1000 ≤ (13 - (i0.dep : Int)) + r8
        omega
      · show (13 - (i0.dep : Int)) + r8 ≤ 1000
        omega
      · have hm : ((13 - (i0.dep : Int)) + r8).toNat ≤ 14 := by omega
        have hd' : i'.dep = i0.dep + ((13 - (i0.dep : Int)) + r8).toNat := hd'
        have hs' : i'.sz ≤ i0.sz + 5 * ((13 - (i0.dep : Int)) + r8).toNat := hs'
        exact ⟨v', i', b', _, rfl, (g5.trans g5a).trans (Go.same ga.dr sb), hi', ho', by omega, by omega⟩
    · exact ⟨v0, i0, b0, _, rfl, g5.trans g6, hi0.go g6 g5.dr, ho0, by omega, by omega⟩
  rintro σ H5 ⟨v, i, b, y5, rfl, g5, hi, ho, hdp, hsz⟩
  have hf : Fit xs (10 ^ 60 - 2) 15 b i := ⟨ho, hxw, by decide, hdp, hsz⟩
  have hls := (wr_len hxw (by decide) ho).2
  refine ⟨(by decide), fun pq hq => ?_⟩
  have hqd : pq ≠ d := new_ne g5.dr hq
  refine ⟨_, rfl, _, rfl, pq, v, i, xs, _, b, 1, false, [], rfl, upd_same, hi.mono (Tp.same (same_new hq _)), hf, by show 0 + 10 * i.sz ≤ 100000; omega, fun H7 zs b7 e7 l7 => ?_⟩
  refine ⟨_, rfl, .inl ⟨rfl, _, sqd e7⟩, (Nat.le_of_ble_eq_true rfl), fun t ht => ?_⟩
  have hzl : zs.length = i.tk.length := by rw [l7.1, put_len ho]
  have hll7 : ([] ++ zs : List V).length < sizeLine := szl' (by rw [List.nil_append, hzl]; omega)
  refine ⟨pq, _, _, rfl, rfl, same_new ht _ _ _ e7, hll7, ?_⟩
  generalize eL : i.put 1 false ++ [(("" : Str), Cd.fin)] = L
  have hLl : L.length = i.tk.length + 1 := by rw [← eL, List.length_append, put_len ho]; rfl
  have l8 : PlL (upd (upd H7 t (.tup [.str "", .str "the end"])) pq (.lst (([] ++ zs) ++ [.ref t]))) (zs ++ [.ref t]) L := by
    rw [← eL]
    exact add_pl (t := "") (c := .fin) e7 ht l7
  have e8 : upd (upd H7 t (.tup [.str "", .str "the end"])) pq (.lst (([] ++ zs) ++ [.ref t])) pq = some (.lst (zs ++ [.ref t])) := by rw [upd_same] <;> rfl
  have g8 : Go d H5 (upd (upd H7 t (.tup [.str "", .str "the end"])) pq (.lst (([] ++ zs) ++ [.ref t]))) := go_but g5.dr hq fun c o n e => by
    have e1 : upd H5 pq (.lst []) c = some o := by rw [upd_ne n]; exact e
    have e2 := b7 c o n e1
    rw [upd_ne n, upd_ne (ne_of_none e2 ht)]
    exact e2
  generalize upd (upd H7 t (.tup [.str "", .str "the end"])) pq (.lst (([] ++ zs) ++ [.ref t])) = H8 at l8 e8 g8 ⊢
  generalize zs ++ [V.ref t] = ps at l8 e8
  have hpl : ps.length = L.length := l8.1
  have hkq : Keep K d H8 pq ps := .of hqd e8
  have plG : ∀ {H'}, Go d H8 H' → PlL H' ps L := fun g => l8.mono (g.tp g8.dr)
  have prpL : ∀ k p, k + 1 < L.length → L[k]? = some p → Prp p.1 ∧ p.1.length ≤ 300 := fun k p hk e => by
    rw [← eL, List.getElem?_append_left (by rw [put_len ho]; omega)] at e
    refine tk_prp hx hB1 ho _ ?_
    rw [← put_fst ho 1 false]
    exact List.mem_map.mpr ⟨p, List.mem_of_getElem? e, rfl⟩
  have hLpos : 0 < L.length := by omega
  have gL : L.length ≤ 100001 := by omega
  -- first
  refine ⟨_, rfl, _, _, rfl, .inl hkq.now, _, _, rfl, rfl, _, rfl, by omega, by omega, fun Df hDf => ?_⟩
  have hDfd : Df ≠ d := new_ne g8.dr hDf
  have gDf := fun o => Go.new (o := o) g8.dr hDf
  have hn1 : (((ps.length : Nat) : Int) - 1).toNat = L.length - 1 := by rw [hpl]; omega
  -- a step of a list that is made
  have put : ∀ {Hx Hy : Hp} {o : HO}, Go d Hx Hy → Hx Df = none → Go d Hx (upd Hy Df o) := fun g h => g.put2 h hDfd
  refine lc_range (lo := 0) (n := (((ps.length : Nat) : Int) - 1).toNat) (fun (j : Nat) (H' : Hp) => ∃ ks : List Nat, Go d H8 H' ∧ H' Df = some (.lst (ks.map fun k : Nat => V.int (k : Int))) ∧ ks.length ≤ j ∧ (ks = [] → ∀ k p, k < j → L[k]? = some p → acc p.2 p.1) ∧
    ∀ k0 r, ks = k0 :: r → k0 < j ∧ (∀ p, L[k0]? = some p → ¬ acc p.2 p.1) ∧ ∀ k p, k < k0 → L[k]? = some p → acc p.2 p.1) ?_ ?_ ?_
  · exact ⟨[], gDf _, upd_same, Nat.zero_le _, fun _ k p h => absurd h (Nat.not_lt_zero _), fun k0 r h => nomatch h⟩
  · rintro j H' hj ⟨ks, g9, eDf, hkl, hk0, hk1⟩
    refine ⟨rfl, ?_⟩
    have e0 : (0 : Int) + (j : Int) = (j : Int) := Int.zero_add _
    have hjL : j < L.length := by omega
    obtain ⟨tk, ck⟩ : ∃ w c, L[j]? = some (w, c) := ⟨_, _, List.getElem?_eq_getElem hjL⟩
    obtain ⟨ck, ejL⟩ := ck
    obtain ⟨aj, hpj, haj⟩ := (plG g9).2 j _ ejL
    obtain ⟨hprp, hpl3⟩ := prpL j _ (by omega) ejL
    have hat : atI ps ((0 : Int) + (j : Int)) = some (.ref aj) := by rw [e0]; exact atI_nat hpj
    refine ⟨_, rfl, _, rfl, pq, ps, _, _, rfl, rfl, (hkq.go g9).now, hat, aj, _, 0, _, rfl, rfl, sqt haj, atI0, ?_⟩
    refine ⟨_, rfl, _, rfl, pq, ps, _, _, rfl, rfl, (hkq.go g9).now, hat, aj, _, 1, _, rfl, rfl, sqt haj, atI1, ?_⟩
    refine ⟨tk, ck, rfl, hprp, hpl3, fun bb H9 s9 hbb => ⟨bb, rfl, ?_⟩⟩
    have g10 := g9.trans (Go.same g9.dr s9)
    have eD9 := s9 _ _ eDf
    cases bb with
    | true =>
      refine ifF rfl ⟨ks, g10, eD9, by omega, fun h k p hk e => ?_, fun k0 r h => ?_⟩
      · by_cases hkj : k < j
        · exact hk0 h k p hkj e
        · obtain rfl : k = j := by omega
          rw [ejL] at e
          cases e
          exact hbb.mp rfl
      · obtain ⟨f1, f2, f3⟩ := hk1 k0 r h
        exact ⟨by omega, f2, f3⟩
    | false =>
      refine ifT rfl ⟨_, rfl, _, eD9, ?_, ks ++ [j], put g10 hDf, by rw [upd_same, List.map_append, e0] <;> rfl, by rw [List.length_append, List.length_singleton]; omega, fun h => by simp at h, fun k0 r h => ?_⟩
      · rw [List.length_map]; exact szl' (by omega)
      · have nacc : ∀ p, L[j]? = some p → ¬ acc p.2 p.1 := fun p e hacc => by
          rw [ejL] at e
          cases e
          exact Bool.false_ne_true (hbb.mpr hacc)
        cases ks with
        | nil =>
          cases h
          exact ⟨by omega, nacc, hk0 rfl⟩
        | cons x r' =>
          cases h
          obtain ⟨f1, f2, f3⟩ := hk1 _ _ rfl
          exact ⟨by omega, f2, f3⟩
  rintro H' ⟨ks, g9, eDf, hkl, hk0, hk1⟩
  rw [hn1] at hkl hk0 hk1
  refine ⟨_, rfl, _, _, rfl, .inl (hkq.go g9).now, (Nat.le_of_ble_eq_true rfl), fun pf1 hpf1 => ?_⟩
  have eDf1 := same_new hpf1 (.lst [V.int ((ps.length : Nat) : Int)]) _ _ eDf
  refine ⟨Df, pf1, _, _, rfl, rfl, eDf1, upd_same, ?_, fun pf hpf => ?_⟩
  · rw [List.length_map, List.length_singleton]; exact szl (by omega)
  have hpfd : pf ≠ d := new_ne (Go.new (o := .lst [V.int ((ps.length : Nat) : Int)]) g9.dr hpf1).dr hpf
  have g10 := fun o => (g9.trans (Go.new (o := .lst [V.int ((ps.length : Nat) : Int)]) g9.dr hpf1)).trans (Go.new (o := o) (Go.new (o := .lst [V.int ((ps.length : Nat) : Int)]) g9.dr hpf1).dr hpf)
  obtain ⟨F, fr, eF, hF⟩ : ∃ (F : Nat) (fr : List V), (ks.map fun k : Nat => V.int (k : Int)) ++ [V.int ((ps.length : Nat) : Int)] = V.int (F : Int) :: fr ∧ Fst L F := by
    cases ks with
    | nil => exact ⟨L.length, [], by rw [hpl] <;> rfl, .inl ⟨rfl, fun k p hk e => hk0 rfl k p (by omega) e⟩⟩
    | cons k0 r =>
      obtain ⟨f1, f2, f3⟩ := hk1 k0 r rfl
      exact ⟨k0, _, rfl, .inr ⟨by omega, f2, f3⟩⟩
  rw [eF]
  have e10 : upd (upd H' pf1 (.lst [V.int ((ps.length : Nat) : Int)])) pf (.lst (V.int (F : Int) :: fr)) pf = some (.lst (V.int (F : Int) :: fr)) := upd_same
  have g10 := g10 (.lst (V.int (F : Int) :: fr))
  generalize upd (upd H' pf1 (.lst [V.int ((ps.length : Nat) : Int)])) pf (.lst (V.int (F : Int) :: fr)) = H10 at e10 g10 ⊢
  have hkf : Keep K d H10 pf (V.int (F : Int) :: fr) := .of hpfd e10
  -- at
  refine ⟨_, rfl, _, rfl, _, _, rfl, .inl (hkq.go g10).now, d, _, rfl, g10.dr, by rw [hpl]; omega, fun at1 H11 g11 a0 a1 => ?_⟩
  have g811 := g10.trans g11
  have hkq1 := hkq.go g811
  have pl1 := plG g811
  -- ns
  refine ⟨_, rfl, _, _, rfl, .inl hkq1.now, _, rfl, by omega, by rw [hpl]; omega, fun Dn hDn => ?_⟩
  have hDnd : Dn ≠ d := new_ne g11.dr hDn
  refine lc_range (lo := 0) (n := ((ps.length : Nat) : Int).toNat) (fun (j : Nat) (H' : Hp) => ∃ vs : List V, Go d H11 H' ∧ H' Dn = some (.lst vs) ∧ vs.length ≤ j ∧ ∀ v ∈ vs, ∃ k : Nat, v = V.int (k : Int) ∧ k < L.length) ?_ ?_ ?_
  · exact ⟨[], Go.new g11.dr hDn, upd_same, Nat.zero_le _, fun v h => nomatch h⟩
  · rintro j H' hj ⟨vs, g12, eDn, hvl, hv⟩
    refine ⟨rfl, ?_⟩
    have e0 : (0 : Int) + (j : Int) = (j : Int) := Int.zero_add _
    have hjL : j < L.length := by omega
    obtain ⟨tk, ck, ejL⟩ : ∃ w c, L[j]? = some (w, c) := ⟨_, _, List.getElem?_eq_getElem hjL⟩
    obtain ⟨aj, hpj, haj⟩ := (pl1.mono (g12.tp g11.dr)).2 j _ ejL
    have hat : atI ps ((0 : Int) + (j : Int)) = some (.ref aj) := by rw [e0]; exact atI_nat hpj
    refine ⟨_, rfl, _, rfl, pq, ps, _, _, rfl, rfl, (hkq1.go g12).now, hat, aj, _, 1, _, rfl, rfl, sqt haj, atI1, rfl, _, rfl, ?_⟩
    refine ite2 (fun cx => ?_) (fun cx => ⟨vs, g12, eDn, by omega, hv⟩)
    refine ⟨_, rfl, vs, eDn, szl' (by omega), vs ++ [.int (0 + (j : Int))], g12.put2 hDn hDnd, upd_same, by rw [List.length_append, List.length_singleton]; omega, fun v hvm => ?_⟩
    rcases List.mem_append.mp hvm with h | h
    · exact hv v h
    · exact ⟨j, by rw [List.mem_singleton.mp h, e0], hjL⟩
  rintro H12 ⟨vns, g12, eDn, hvl, hvns⟩
  refine ⟨fun σ H' => ∃ at2 : Nat, σ = [some (.ref a), some (.ref d), some (.int c), some (.ref n), some v, y5, some (.ref pq), some (.ref pf), none, some (.int (at2 : Int)), some (.ref Dn), none, none, none, none, none, none] ∧ Go d H11 H' ∧ at2 < L.length, ?_, ?_⟩
  · have hst : ∃ k : Nat, at1 = (k : Int) ∧ k < L.length := ⟨at1.toNat, by omega, by omega⟩
    obtain ⟨k1, rfl, hk1⟩ := hst
    refine ⟨_, rfl, _, _, rfl, .inl (sqd eDn), _, _, rfl, rfl, _, rfl, ?_⟩
    refine ite2 (fun cx => ?_) (fun cx => ⟨k1, rfl, g12, hk1⟩)
    have hvpos : 0 < vns.length := by have := of_decide_eq_true cx; omega
    refine ⟨_, rfl, d, _, rfl, g12.dr, (by decide), fun r H13 g13 _ _ => ?_⟩
    refine ⟨rfl, _, rfl, ?_⟩
    refine ite2 (fun cy => ?_) (fun cy => ⟨k1, rfl, g12.trans g13, hk1⟩)
    have eDn2 := g13.fr Dn _ hDnd eDn
    refine ⟨_, rfl, _, rfl, _, rfl, _, _, rfl, .inl (sqd eDn2), d, _, rfl, g13.dr, by omega, fun u H14 g14 u0 u1 => ?_⟩
    obtain ⟨vk, hvk, hm⟩ := atI_mem (xs := vns) u0 u1
    obtain ⟨k2, rfl, hk2⟩ := hvns vk hm
    exact ⟨_, _, _, _, rfl, rfl, sqd (g14.fr Dn _ hDnd eDn2), hvk, k2, rfl, g12.trans (g13.trans g14), hk2⟩
  rintro σ H13 ⟨at2, rfl, g13, hat2⟩
  have g813 := g811.trans g13
  have hkq3 := hkq.go g813
  have pl3 := plG g813
  -- tokens
  refine ⟨_, rfl, _, rfl, _, rfl, pq, ps, rfl, hkq3.now, fun pc hpc => ?_⟩
  have ecut : cutV ps none (some (-1)) = ps.take (ps.length - 1) := cut_init
  have hpcd : pc ≠ d := new_ne g13.dr hpc
  have gpc := fun o => Go.new (o := o) g13.dr hpc
  have word : ∀ k q, k < i.tk.length → L[k]? = some q → i.tk[k]? = some q.1 := fun k q hk e => by
    rw [← eL, List.getElem?_append_left (by rw [put_len ho]; omega)] at e
    rw [← put_fst ho 1 false, List.getElem?_map, e]
    rfl
  refine ⟨pc, rfl, ⟨_, sqd upd_same⟩, fun Dt hDt => ?_⟩
  have hDtd : Dt ≠ d := new_ne (gpc _).dr hDt
  refine lc_list (K := K) (a := pc) (xs := cutV ps none (some (-1))) (fun (j : Nat) (H' : Hp) => Go d (upd H13 pc (.lst (cutV ps none (some (-1))))) H' ∧ H' Dt = some (.lst ((i.tk.take j).map V.str))) ?_ ?_ ?_ ?_
  · exact ⟨Go.new (gpc _).dr hDt, by rw [upd_same, List.take_zero]; rfl⟩
  · rintro j H' _ ⟨g, _⟩
    exact sqd (g.fr pc _ hpcd upd_same)
  · rintro j x H' hxj ⟨g, eD⟩
    have hj : j < i.tk.length := by
      have := (List.getElem?_eq_some_iff.mp hxj).1
      rw [ecut, List.length_take] at this
      omega
    rw [ecut, List.getElem?_take_of_lt (by omega)] at hxj
    obtain ⟨wj, cj, ejL⟩ : ∃ w c, L[j]? = some (w, c) := ⟨_, _, List.getElem?_eq_getElem (by omega)⟩
    obtain ⟨aj, hpj, haj⟩ := (plG (g813.trans ((gpc _).trans g))).2 j _ ejL
    rw [hxj] at hpj
    cases hpj
    refine ⟨rfl, yes_if ?_⟩
    refine ⟨_, rfl, aj, _, 0, _, rfl, rfl, sqt haj, atI0, _, eD, ?_, g.put2 hDt hDtd, ?_⟩
    · rw [List.length_map, List.length_take]; exact szl' (by omega)
    · rw [upd_same, List.take_add_one, word j _ hj ejL, List.map_append]
      rfl
  rintro H14 ⟨g14, eDt⟩
  rw [ecut, List.length_take, show min (ps.length - 1) ps.length = i.tk.length by omega, List.take_length] at eDt
  have g814 := g813.trans ((gpc _).trans g14)
  -- starts, text
  refine ⟨(by decide), fun sS hsS => ?_⟩
  have hsd : sS ≠ d := new_ne g14.dr hsS
  have gS := fun o => Go.new (o := o) g14.dr hsS
  have eDt1 := same_new hsS (.lst []) _ _ eDt
  refine ⟨_, rfl, _, rfl, _, rfl, Dt, _, rfl, sqd eDt1, fun p1 hp1 => ?_⟩
  have hp1d : p1 ≠ d := new_ne (gS (.lst [])).dr hp1
  have np1 : p1 ≠ sS := fun e => by rw [e, upd_same] at hp1; cases hp1
  rw [cut_pre, ← List.map_take]
  refine ⟨_, rfl, _, rfl, d, c, rfl, (Go.new (gS (.lst [])).dr hp1).dr, fun pat H15 g15 => ?_⟩
  have e15p := g15.fr p1 _ hp1d upd_same
  have e15s := g15.fr sS _ hsd (same_new hp1 (.lst ((i.tk.take at2).map V.str)) _ _ upd_same)
  have tkl : ∀ t ∈ i.tk.take at2, t.length ≤ 300 := fun t ht => (tk_prp hx hB1 ho t (List.mem_of_mem_take ht)).2
  have hta : (i.tk.take at2).length = at2 := by rw [List.length_take]; omega
  refine ⟨_, rfl, p1, sS, i.tk.take at2, pat, rfl, e15p, np1, e15s, by omega, tkl, fun z ss H16 f16 es hLay hz => ?_⟩
  rw [hta] at hz
  have g1416 : Go d H14 H16 := ⟨fun b o hb e => f16 b o (ne_of_none e hsS) (g15.fr b o hb (same_new hp1 _ _ _ (same_new hsS _ _ _ e))), by
    obtain ⟨n1, e1⟩ := g15.dr
    exact ⟨n1, f16 d _ (Ne.symm hsd) e1⟩⟩
  have g816 := g814.trans g1416
  have hkt : Keep K d H14 Dt (i.tk.map V.str) := .of hDtd eDt
  have hks : Keep K d H16 sS (ss.map fun k : Nat => V.int (k : Int)) := .of hsd es
  have l1 : (" " : Str).length = 1 := by decide +kernel
  have t32 : tl (" " : Str) = [32] := by decide +kernel
  have hzl2 : z.length ≤ 3100000 := by omega
  have g48 : Go d H4 H8 := g5.trans g8
  obtain ⟨wA, cA, hA⟩ : ∃ w c, L[at2]? = some (w, c) := ⟨_, _, List.getElem?_eq_getElem hat2⟩
  obtain ⟨aA, hpA, -⟩ := l8.2 at2 _ hA
  have hatA : atI ps (at2 : Int) = some (.ref aA) := atI_nat hpA
  have haA : ∀ H', Go d H8 H' → H' aA = some (.tup [.str wA, .str cA.str]) := fun H' g => by
    obtain ⟨a2, h1, h2⟩ := (plG g).2 at2 _ hA
    rw [hpA] at h1
    cases h1
    exact h2
  refine ⟨_, rfl, z, rfl, szl (by omega), _, _, rfl, rfl, ?_⟩
  refine ⟨fun σ H' => ∃ (z' : Str) (due : Nat) (y16 : Option V), σ = [some (.ref a), some (.ref d), some (.int c), some (.ref n), some v, y5, some (.ref pq), some (.ref pf), none, some (.int (at2 : Int)), some (.ref Dn), some (.ref Dt), none, some (.ref sS), some (.str z'), some (.int (due : Int)), y16] ∧ Go d H16 H' ∧ GoodT L i.tk ss at2 z' due, ?_, ?_⟩
  · by_cases hend : at2 = i.tk.length
    · refine ⟨_, rfl, _, rfl, _, _, rfl, .inl (hkt.go g1416).now, rfl, _, rfl, ?_⟩
      refine ifT (decide_eq_true (by rw [List.length_map, hend])) ?_
      have gSt := g1416
      have gH := g816
      have g16 := Go.refl (d := d) (H := H16) g1416.dr
      refine ⟨_, rfl, _, rfl, _, rfl, pq, ps, _, _, rfl, rfl, (hkq.go gH).now, hatA, aA, _, 1, _, rfl, rfl, sqt (haA _ gH), atI1, _, rfl, _, rfl, d, n, cA, xs, c, rfl, gH.dr, hkn.go (g48.trans gH), hne (by decide), hx, hc60, fun u Hm gm hmis => ?_⟩
      have hul := hmis.ln
      refine ⟨_, rfl, _, rfl, z, u, rfl, by omega, hul, fun rr hrr => ?_⟩
      have hZl : (if rr = true then z ++ " " else z).length ≤ z.length + 1 := by
        cases rr
        · exact Nat.le_succ _
        · show (z ++ " ").length ≤ _
          rw [len_app, l1]
          exact Nat.le_refl _
      have good := fun (R : Str) (hR : EndR (tl R)) (hl : ((if rr = true then z ++ " " else z) ++ u ++ R).length ≤ 9000000) => good_b (L := L) (r := rr) (by omega) hLay (fun t ht => (tk_prp hx hB1 ho t ht).1) (tk_good hx ho).2 hmis hA hR hrr hl
      generalize (if rr = true then z ++ " " else z) = Z at hZl good ⊢
      refine ⟨_, rfl, Z, rfl, szl (by omega), _, _, rfl, rfl, ?_⟩
      refine ⟨_, rfl, _, rfl, _, _, rfl, rfl, szl (by omega), ?_⟩
      have hZu : (Z ++ u).length = Z.length + u.length := len_app _ _
      refine ⟨_, rfl, d, _, rfl, gm.dr, (by decide), fun r2 Hn gn _ _ => ?_⟩
      refine ⟨rfl, _, rfl, ?_⟩
      have gHn := gH.trans (gm.trans gn)
      refine ite2 (fun cy => ?_) (fun cy => ?_)
      · refine ⟨_, rfl, _, _, rfl, rfl, szl (by omega), ⟨_, rfl⟩, _, rfl, _, rfl, _, rfl, d, _, rfl, gn.dr, (by decide), fun r3 Ho go_ _ _ => ?_⟩
        obtain ⟨ys, ey1, ey2, ey3⟩ := cut_strs i.tk (some ((at2 : Int) + r3)) none
        refine ⟨_, _, rfl, rfl, _, rfl, Dt, _, rfl, (hkt.go (gSt.trans (gm.trans (gn.trans go_)))).now, fun pj hpj => ?_⟩
        rw [ey1]
        have hys : ∀ t ∈ ys, t.length ≤ 300 := fun t ht => (tk_prp hx hB1 ho t (ey2 t ht)).2
        have hsum := sum_len ys hys
        have hjl := join_sp ys hys
        refine ⟨_, pj, ys, rfl, rfl, .inl (sqd upd_same), by rw [l1]; exact szl (by omega), ?_⟩
        have hZu1 : (Z ++ u ++ " ").length = Z.length + u.length + 1 := by rw [len_app, hZu, l1]
        refine ⟨_, _, rfl, rfl, szl (by omega), ?_⟩
        refine ⟨_, Z.length + 1, _, rfl, (gm.trans (gn.trans go_)).trans (Go.new go_.dr hpj), ?_⟩
        rw [app_as]
        exact good (" " ++ Txt.join " " ys) (.inr ⟨tl (Txt.join " " ys), by rw [tl_app, t32] <;> rfl⟩) (by rw [len_app, hZu, len_app, l1]; omega)
      · refine ⟨_, Z.length + 1, _, rfl, gm.trans gn, ?_⟩
        rw [← app_no (Z ++ u)]
        exact good "" (.inl (tl_nil.mpr rfl)) (by rw [app_no, hZu]; omega)
    · refine ⟨_, rfl, _, rfl, _, _, rfl, .inl (hkt.go g1416).now, rfl, _, rfl, ?_⟩
      refine ifF (decide_eq_false (fun e => hend (by have := V.int.inj e; rw [List.length_map] at this; omega))) ?_
      refine ⟨_, rfl, d, _, rfl, g1416.dr, (by decide), fun r1 H17 g17 _ _ => ?_⟩
      refine ⟨_, _, rfl, rfl, _, rfl, ?_⟩
      refine ite2 (fun cz => ?_) (fun cz => ?_)
      · have gSt := g1416.trans g17
        have gH := g816.trans g17
        refine ⟨_, rfl, _, rfl, _, rfl, pq, ps, _, _, rfl, rfl, (hkq.go gH).now, hatA, aA, _, 1, _, rfl, rfl, sqt (haA _ gH), atI1, _, rfl, _, rfl, d, n, cA, xs, c, rfl, gH.dr, hkn.go (g48.trans gH), hne (by decide), hx, hc60, fun u Hm gm hmis => ?_⟩
        have hul := hmis.ln
        refine ⟨_, rfl, _, rfl, z, u, rfl, by omega, hul, fun rr hrr => ?_⟩
        have hZl : (if rr = true then z ++ " " else z).length ≤ z.length + 1 := by
          cases rr
          · exact Nat.le_succ _
          · show (z ++ " ").length ≤ _
            rw [len_app, l1]
            exact Nat.le_refl _
        have good := fun (R : Str) (hR : EndR (tl R)) (hl : ((if rr = true then z ++ " " else z) ++ u ++ R).length ≤ 9000000) => good_b (L := L) (r := rr) (by omega) hLay (fun t ht => (tk_prp hx hB1 ho t ht).1) (tk_good hx ho).2 hmis hA hR hrr hl
        generalize (if rr = true then z ++ " " else z) = Z at hZl good ⊢
        refine ⟨_, rfl, Z, rfl, szl (by omega), _, _, rfl, rfl, ?_⟩
        refine ⟨_, rfl, _, rfl, _, _, rfl, rfl, szl (by omega), ?_⟩
        have hZu : (Z ++ u).length = Z.length + u.length := len_app _ _
        refine ⟨_, rfl, d, _, rfl, gm.dr, (by decide), fun r2 Hn gn _ _ => ?_⟩
        refine ⟨rfl, _, rfl, ?_⟩
        have gHn := gH.trans (gm.trans gn)
        refine ite2 (fun cy => ?_) (fun cy => ?_)
        · refine ⟨_, rfl, _, _, rfl, rfl, szl (by omega), ⟨_, rfl⟩, _, rfl, _, rfl, _, rfl, d, _, rfl, gn.dr, (by decide), fun r3 Ho go_ _ _ => ?_⟩
          obtain ⟨ys, ey1, ey2, ey3⟩ := cut_strs i.tk (some ((at2 : Int) + r3)) none
          refine ⟨_, _, rfl, rfl, _, rfl, Dt, _, rfl, (hkt.go (gSt.trans (gm.trans (gn.trans go_)))).now, fun pj hpj => ?_⟩
          rw [ey1]
          have hys : ∀ t ∈ ys, t.length ≤ 300 := fun t ht => (tk_prp hx hB1 ho t (ey2 t ht)).2
          have hsum := sum_len ys hys
          have hjl := join_sp ys hys
          refine ⟨_, pj, ys, rfl, rfl, .inl (sqd upd_same), by rw [l1]; exact szl (by omega), ?_⟩
          have hZu1 : (Z ++ u ++ " ").length = Z.length + u.length + 1 := by rw [len_app, hZu, l1]
          refine ⟨_, _, rfl, rfl, szl (by omega), ?_⟩
          refine ⟨_, Z.length + 1, _, rfl, (g17.trans (gm.trans (gn.trans go_))).trans (Go.new go_.dr hpj), ?_⟩
          rw [app_as]
          exact good (" " ++ Txt.join " " ys) (.inr ⟨tl (Txt.join " " ys), by rw [tl_app, t32] <;> rfl⟩) (by rw [len_app, hZu, len_app, l1]; omega)
        · refine ⟨_, Z.length + 1, _, rfl, g17.trans (gm.trans gn), ?_⟩
          rw [← app_no (Z ++ u)]
          exact good "" (.inl (tl_nil.mpr rfl)) (by rw [app_no, hZu]; omega)
      · refine ⟨z, z.length + 1, _, rfl, g17, good_a (by omega) hLay (fun t ht => (tk_prp hx hB1 ho t ht).1) (tk_good hx ho).2 (by omega) fun p hp => ?_⟩
        rw [← eL, List.getElem?_append_left (by rw [put_len ho]; omega)] at hp
        exact put_nofin ho 1 false p (List.mem_of_getElem? hp)
  rintro σ H17 ⟨z', due, y16, rfl, g17, hG⟩
  obtain ⟨ts, hT, hE1, hE2⟩ := good_end hx hB1 ho eL.symm hat2 hF hG
  have g817 := g816.trans g17
  have hkf2 := hkf.go (g11.trans (g13.trans ((gpc (.lst (cutV ps none (some (-1))))).trans (g14.trans (g1416.trans g17)))))
  refine ⟨fun σ H' => ∃ due' : Nat, σ = [some (.ref a), some (.ref d), some (.int c), some (.ref n), some v, y5, some (.ref pq), some (.ref pf), none, some (.int (at2 : Int)), some (.ref Dn), some (.ref Dt), none, some (.ref sS), some (.str z'), some (.int (due' : Int)), y16] ∧ H' = H17 ∧ rdW (kdB b) (endT z' ts) = .error due', ?_, ?_⟩
  · refine ⟨_, rfl, pf, _, _, _, rfl, rfl, hkf2.now, atI0, _, rfl, _, _, rfl, rfl, _, rfl, ?_⟩
    refine ite2 (fun cz => ?_) (fun cz => ?_)
    · have hFa : F < at2 := by have := of_decide_eq_true cz; omega
      obtain ⟨s3, es3, hW⟩ := hE1 hFa
      refine ⟨_, rfl, _, rfl, pf, _, _, _, rfl, rfl, hkf2.now, atI0, sS, _, _, V.int (s3 : Int), rfl, rfl, (hks.go g17).now, ?_, _, _, rfl, rfl, s3 + 1, rfl, rfl, hW⟩
      refine atI_nat ?_
      rw [List.getElem?_map, es3]
      rfl
    · exact ⟨due, rfl, rfl, hE2 fun h => cz (decide_eq_true (by omega))⟩
  rintro σ H18 ⟨due', rfl, rfl, hW⟩
  refine ⟨_, rfl, v, i, xs, _, b, rfl, (hi.go g8 g5.dr).go g817 g8.dr, ho, fun H19 s19 => ?_⟩
  exact ⟨_, rfl, _, rfl, b, z', due', ts, rfl, hG.1, hT, hW, fun H' _ => q H'⟩
end
end NL

namespace NL
open PySem PySem.Spec PyProof.Rows L2
theorem all_mk {l : PySem.W.OpenLaw} {w : World} {K : PySem.W.Frag} {h : Heap} {mg : Str → Option Value} {fa frun_end fis_name fis_integer ftokens_of f_piece_end fread_whole f_pass_token f_read_part f_read_divisor f_read_expression f_read_condition f_read_parts f_read_conditions fread_expression fread_condition f_law_draws f_law_take f_law_cell f_law_word f_law_some_word f_law_reserved f_law_name f_law_names f_law_is_integer f_law_number f_law_leaf f_law_expression f_law_test f_law_inner f_law_depth f_law_is_test f_law_around f_law_many f_law_great f_law_tokens f_law_text_item f_law_is_joined f_law_spaced f_law_pattern f_law_put f_law_fits f_law_bad_token f_law_misfit f_law_error_name f_law_gap f_law_refused flaw : Addr} (X : K.In h) (G : h.Ns mainGlobals mg) (hfa : mg "law" = some (.ref fa))
    {odrun_end anrun_end : Option Addr} {slrun_end : Array (Option Value)} {ocrun_end kVrun_end dcrun_end pmrun_end cdrun_end ctrun_end : Value}
    {odis_name anis_name : Option Addr} {slis_name : Array (Option Value)} {ocis_name kVis_name dcis_name pmis_name cdis_name ctis_name : Value}
    {odis_integer anis_integer : Option Addr} {slis_integer : Array (Option Value)} {ocis_integer kVis_integer dcis_integer pmis_integer cdis_integer ctis_integer : Value}
    {odtokens_of antokens_of : Option Addr} {sltokens_of : Array (Option Value)} {octokens_of kVtokens_of dctokens_of pmtokens_of cdtokens_of cttokens_of : Value}
    {od_piece_end an_piece_end : Option Addr} {sl_piece_end : Array (Option Value)} {oc_piece_end kV_piece_end dc_piece_end pm_piece_end cd_piece_end ct_piece_end : Value}
    {odread_whole anread_whole : Option Addr} {slread_whole : Array (Option Value)} {ocread_whole kVread_whole dcread_whole pmread_whole cdread_whole ctread_whole : Value}
    {od_pass_token an_pass_token : Option Addr} {sl_pass_token : Array (Option Value)} {oc_pass_token kV_pass_token dc_pass_token pm_pass_token cd_pass_token ct_pass_token : Value}
    {od_read_part an_read_part : Option Addr} {sl_read_part : Array (Option Value)} {oc_read_part kV_read_part dc_read_part pm_read_part cd_read_part ct_read_part : Value}
    {od_read_divisor an_read_divisor : Option Addr} {sl_read_divisor : Array (Option Value)} {oc_read_divisor kV_read_divisor dc_read_divisor pm_read_divisor cd_read_divisor ct_read_divisor : Value}
    {od_read_expression an_read_expression : Option Addr} {sl_read_expression : Array (Option Value)} {oc_read_expression kV_read_expression dc_read_expression pm_read_expression cd_read_expression ct_read_expression : Value}
    {od_read_condition an_read_condition : Option Addr} {sl_read_condition : Array (Option Value)} {oc_read_condition kV_read_condition dc_read_condition pm_read_condition cd_read_condition ct_read_condition : Value}
    {od_read_parts an_read_parts : Option Addr} {sl_read_parts : Array (Option Value)} {oc_read_parts kV_read_parts dc_read_parts pm_read_parts cd_read_parts ct_read_parts : Value}
    {od_read_conditions an_read_conditions : Option Addr} {sl_read_conditions : Array (Option Value)} {oc_read_conditions kV_read_conditions dc_read_conditions pm_read_conditions cd_read_conditions ct_read_conditions : Value}
    {odread_expression anread_expression : Option Addr} {slread_expression : Array (Option Value)} {ocread_expression kVread_expression dcread_expression pmread_expression cdread_expression ctread_expression : Value}
    {odread_condition anread_condition : Option Addr} {slread_condition : Array (Option Value)} {ocread_condition kVread_condition dcread_condition pmread_condition cdread_condition ctread_condition : Value}
    {od_law_draws an_law_draws : Option Addr} {sl_law_draws : Array (Option Value)} {oc_law_draws kV_law_draws dc_law_draws pm_law_draws cd_law_draws ct_law_draws : Value}
    {od_law_take an_law_take : Option Addr} {sl_law_take : Array (Option Value)} {oc_law_take kV_law_take dc_law_take pm_law_take cd_law_take ct_law_take : Value}
    {od_law_cell an_law_cell : Option Addr} {sl_law_cell : Array (Option Value)} {oc_law_cell kV_law_cell dc_law_cell pm_law_cell cd_law_cell ct_law_cell : Value}
    {od_law_word an_law_word : Option Addr} {sl_law_word : Array (Option Value)} {oc_law_word kV_law_word dc_law_word pm_law_word cd_law_word ct_law_word : Value}
    {od_law_some_word an_law_some_word : Option Addr} {sl_law_some_word : Array (Option Value)} {oc_law_some_word kV_law_some_word dc_law_some_word pm_law_some_word cd_law_some_word ct_law_some_word : Value}
    {od_law_reserved an_law_reserved : Option Addr} {sl_law_reserved : Array (Option Value)} {oc_law_reserved kV_law_reserved dc_law_reserved pm_law_reserved cd_law_reserved ct_law_reserved : Value}
    {od_law_name an_law_name : Option Addr} {sl_law_name : Array (Option Value)} {oc_law_name kV_law_name dc_law_name pm_law_name cd_law_name ct_law_name : Value}
    {od_law_names an_law_names : Option Addr} {sl_law_names : Array (Option Value)} {oc_law_names kV_law_names dc_law_names pm_law_names cd_law_names ct_law_names : Value}
    {od_law_is_integer an_law_is_integer : Option Addr} {sl_law_is_integer : Array (Option Value)} {oc_law_is_integer kV_law_is_integer dc_law_is_integer pm_law_is_integer cd_law_is_integer ct_law_is_integer : Value}
    {od_law_number an_law_number : Option Addr} {sl_law_number : Array (Option Value)} {oc_law_number kV_law_number dc_law_number pm_law_number cd_law_number ct_law_number : Value}
    {od_law_leaf an_law_leaf : Option Addr} {sl_law_leaf : Array (Option Value)} {oc_law_leaf kV_law_leaf dc_law_leaf pm_law_leaf cd_law_leaf ct_law_leaf : Value}
    {od_law_expression an_law_expression : Option Addr} {sl_law_expression : Array (Option Value)} {oc_law_expression kV_law_expression dc_law_expression pm_law_expression cd_law_expression ct_law_expression : Value}
    {od_law_test an_law_test : Option Addr} {sl_law_test : Array (Option Value)} {oc_law_test kV_law_test dc_law_test pm_law_test cd_law_test ct_law_test : Value}
    {od_law_inner an_law_inner : Option Addr} {sl_law_inner : Array (Option Value)} {oc_law_inner kV_law_inner dc_law_inner pm_law_inner cd_law_inner ct_law_inner : Value}
    {od_law_depth an_law_depth : Option Addr} {sl_law_depth : Array (Option Value)} {oc_law_depth kV_law_depth dc_law_depth pm_law_depth cd_law_depth ct_law_depth : Value}
    {od_law_is_test an_law_is_test : Option Addr} {sl_law_is_test : Array (Option Value)} {oc_law_is_test kV_law_is_test dc_law_is_test pm_law_is_test cd_law_is_test ct_law_is_test : Value}
    {od_law_around an_law_around : Option Addr} {sl_law_around : Array (Option Value)} {oc_law_around kV_law_around dc_law_around pm_law_around cd_law_around ct_law_around : Value}
    {od_law_many an_law_many : Option Addr} {sl_law_many : Array (Option Value)} {oc_law_many kV_law_many dc_law_many pm_law_many cd_law_many ct_law_many : Value}
    {od_law_great an_law_great : Option Addr} {sl_law_great : Array (Option Value)} {oc_law_great kV_law_great dc_law_great pm_law_great cd_law_great ct_law_great : Value}
    {od_law_tokens an_law_tokens : Option Addr} {sl_law_tokens : Array (Option Value)} {oc_law_tokens kV_law_tokens dc_law_tokens pm_law_tokens cd_law_tokens ct_law_tokens : Value}
    {od_law_text_item an_law_text_item : Option Addr} {sl_law_text_item : Array (Option Value)} {oc_law_text_item kV_law_text_item dc_law_text_item pm_law_text_item cd_law_text_item ct_law_text_item : Value}
    {od_law_is_joined an_law_is_joined : Option Addr} {sl_law_is_joined : Array (Option Value)} {oc_law_is_joined kV_law_is_joined dc_law_is_joined pm_law_is_joined cd_law_is_joined ct_law_is_joined : Value}
    {od_law_spaced an_law_spaced : Option Addr} {sl_law_spaced : Array (Option Value)} {oc_law_spaced kV_law_spaced dc_law_spaced pm_law_spaced cd_law_spaced ct_law_spaced : Value}
    {od_law_pattern an_law_pattern : Option Addr} {sl_law_pattern : Array (Option Value)} {oc_law_pattern kV_law_pattern dc_law_pattern pm_law_pattern cd_law_pattern ct_law_pattern : Value}
    {od_law_put an_law_put : Option Addr} {sl_law_put : Array (Option Value)} {oc_law_put kV_law_put dc_law_put pm_law_put cd_law_put ct_law_put : Value}
    {od_law_fits an_law_fits : Option Addr} {sl_law_fits : Array (Option Value)} {oc_law_fits kV_law_fits dc_law_fits pm_law_fits cd_law_fits ct_law_fits : Value}
    {od_law_bad_token an_law_bad_token : Option Addr} {sl_law_bad_token : Array (Option Value)} {oc_law_bad_token kV_law_bad_token dc_law_bad_token pm_law_bad_token cd_law_bad_token ct_law_bad_token : Value}
    {od_law_misfit an_law_misfit : Option Addr} {sl_law_misfit : Array (Option Value)} {oc_law_misfit kV_law_misfit dc_law_misfit pm_law_misfit cd_law_misfit ct_law_misfit : Value}
    {od_law_error_name an_law_error_name : Option Addr} {sl_law_error_name : Array (Option Value)} {oc_law_error_name kV_law_error_name dc_law_error_name pm_law_error_name cd_law_error_name ct_law_error_name : Value}
    {od_law_gap an_law_gap : Option Addr} {sl_law_gap : Array (Option Value)} {oc_law_gap kV_law_gap dc_law_gap pm_law_gap cd_law_gap ct_law_gap : Value}
    {od_law_refused an_law_refused : Option Addr} {sl_law_refused : Array (Option Value)} {oc_law_refused kV_law_refused dc_law_refused pm_law_refused cd_law_refused ct_law_refused : Value}
    {odlaw anlaw : Option Addr} {sllaw : Array (Option Value)} {oclaw kVlaw dclaw pmlaw cdlaw ctlaw : Value}
    {u_LETTERS : Value}
    {u_DIGITS : Value}
    {u_MOST_DIGITS : Value}
    {c_WORDS : Addr}
    {u_MOST_DEPTH : Value}
    {c_EXPRESSION_PARTS : Addr} {e_EXPRESSION_PARTS : Array DictEntry} {n_EXPRESSION_PARTS : Nat} {t0_EXPRESSION_PARTS t1_EXPRESSION_PARTS t2_EXPRESSION_PARTS t3_EXPRESSION_PARTS t4_EXPRESSION_PARTS t5_EXPRESSION_PARTS t6_EXPRESSION_PARTS t7_EXPRESSION_PARTS t8_EXPRESSION_PARTS : Addr}
    {c_CONDITION_PARTS : Addr} {e_CONDITION_PARTS : Array DictEntry} {n_CONDITION_PARTS : Nat} {t0_CONDITION_PARTS t1_CONDITION_PARTS t2_CONDITION_PARTS : Addr}
    {c_ControlError c_InvalidExpression c_InvalidPlant c_InvalidArena c_InvalidGoal c_BadText c_NoPosition c_Held c_NotHeld c_BadReply c_Lost : Addr}
    {fI : Addr} {odI anI : Option Addr} {slI : Array (Option Value)} {ocI kVI dcI pmI cdI ctI : Value}
    {xnm xq : Str} {xN : Addr} {xbs xbm : List Value} {xsn : List Str} {xsub : List Value} {xab : Bool} {xcol : Option Bool} {xdd : Option Addr} {xm0 xm1 xm2 xm3 xm5 : Option Value}
    (arun_end : PySem.W.nsIn K mainGlobals "run_end" = some (some (.ref frun_end))) (lrun_end : K.lookup frun_end = some ⟨ocrun_end, odrun_end, .func (PySem.W.fnOf "run_end" "run_end" (defArgs srun_end) (defBody srun_end) (defScope srun_end) .none kVrun_end dcrun_end pmrun_end anrun_end cdrun_end ctrun_end), slrun_end⟩) (crun_end : PySem.W.codeIn K cdrun_end "run_end" = true) (krun_end : PySem.W.keepIn K (.ref frun_end) = true)
    (ais_name : PySem.W.nsIn K mainGlobals "is_name" = some (some (.ref fis_name))) (lis_name : K.lookup fis_name = some ⟨ocis_name, odis_name, .func (PySem.W.fnOf "is_name" "is_name" (defArgs sis_name) (defBody sis_name) (defScope sis_name) .none kVis_name dcis_name pmis_name anis_name cdis_name ctis_name), slis_name⟩) (cis_name : PySem.W.codeIn K cdis_name "is_name" = true) (kis_name : PySem.W.keepIn K (.ref fis_name) = true)
    (ais_integer : PySem.W.nsIn K mainGlobals "is_integer" = some (some (.ref fis_integer))) (lis_integer : K.lookup fis_integer = some ⟨ocis_integer, odis_integer, .func (PySem.W.fnOf "is_integer" "is_integer" (defArgs sis_integer) (defBody sis_integer) (defScope sis_integer) .none kVis_integer dcis_integer pmis_integer anis_integer cdis_integer ctis_integer), slis_integer⟩) (cis_integer : PySem.W.codeIn K cdis_integer "is_integer" = true) (kis_integer : PySem.W.keepIn K (.ref fis_integer) = true)
    (atokens_of : PySem.W.nsIn K mainGlobals "tokens_of" = some (some (.ref ftokens_of))) (ltokens_of : K.lookup ftokens_of = some ⟨octokens_of, odtokens_of, .func (PySem.W.fnOf "tokens_of" "tokens_of" (defArgs stokens_of) (defBody stokens_of) (defScope stokens_of) .none kVtokens_of dctokens_of pmtokens_of antokens_of cdtokens_of cttokens_of), sltokens_of⟩) (ctokens_of : PySem.W.codeIn K cdtokens_of "tokens_of" = true) (ktokens_of : PySem.W.keepIn K (.ref ftokens_of) = true)
    (a_piece_end : PySem.W.nsIn K mainGlobals "_piece_end" = some (some (.ref f_piece_end))) (l_piece_end : K.lookup f_piece_end = some ⟨oc_piece_end, od_piece_end, .func (PySem.W.fnOf "_piece_end" "_piece_end" (defArgs s_piece_end) (defBody s_piece_end) (defScope s_piece_end) .none kV_piece_end dc_piece_end pm_piece_end an_piece_end cd_piece_end ct_piece_end), sl_piece_end⟩) (c_piece_end : PySem.W.codeIn K cd_piece_end "_piece_end" = true) (k_piece_end : PySem.W.keepIn K (.ref f_piece_end) = true)
    (aread_whole : PySem.W.nsIn K mainGlobals "read_whole" = some (some (.ref fread_whole))) (lread_whole : K.lookup fread_whole = some ⟨ocread_whole, odread_whole, .func (PySem.W.fnOf "read_whole" "read_whole" (defArgs sread_whole) (defBody sread_whole) (defScope sread_whole) .none kVread_whole dcread_whole pmread_whole anread_whole cdread_whole ctread_whole), slread_whole⟩) (cread_whole : PySem.W.codeIn K cdread_whole "read_whole" = true) (kread_whole : PySem.W.keepIn K (.ref fread_whole) = true)
    (a_pass_token : PySem.W.nsIn K mainGlobals "_pass_token" = some (some (.ref f_pass_token))) (l_pass_token : K.lookup f_pass_token = some ⟨oc_pass_token, od_pass_token, .func (PySem.W.fnOf "_pass_token" "_pass_token" (defArgs s_pass_token) (defBody s_pass_token) (defScope s_pass_token) .none kV_pass_token dc_pass_token pm_pass_token an_pass_token cd_pass_token ct_pass_token), sl_pass_token⟩) (c_pass_token : PySem.W.codeIn K cd_pass_token "_pass_token" = true) (k_pass_token : PySem.W.keepIn K (.ref f_pass_token) = true)
    (a_read_part : PySem.W.nsIn K mainGlobals "_read_part" = some (some (.ref f_read_part))) (l_read_part : K.lookup f_read_part = some ⟨oc_read_part, od_read_part, .func (PySem.W.fnOf "_read_part" "_read_part" (defArgs s_read_part) (defBody s_read_part) (defScope s_read_part) .none kV_read_part dc_read_part pm_read_part an_read_part cd_read_part ct_read_part), sl_read_part⟩) (c_read_part : PySem.W.codeIn K cd_read_part "_read_part" = true) (k_read_part : PySem.W.keepIn K (.ref f_read_part) = true)
    (a_read_divisor : PySem.W.nsIn K mainGlobals "_read_divisor" = some (some (.ref f_read_divisor))) (l_read_divisor : K.lookup f_read_divisor = some ⟨oc_read_divisor, od_read_divisor, .func (PySem.W.fnOf "_read_divisor" "_read_divisor" (defArgs s_read_divisor) (defBody s_read_divisor) (defScope s_read_divisor) .none kV_read_divisor dc_read_divisor pm_read_divisor an_read_divisor cd_read_divisor ct_read_divisor), sl_read_divisor⟩) (c_read_divisor : PySem.W.codeIn K cd_read_divisor "_read_divisor" = true) (k_read_divisor : PySem.W.keepIn K (.ref f_read_divisor) = true)
    (a_read_expression : PySem.W.nsIn K mainGlobals "_read_expression" = some (some (.ref f_read_expression))) (l_read_expression : K.lookup f_read_expression = some ⟨oc_read_expression, od_read_expression, .func (PySem.W.fnOf "_read_expression" "_read_expression" (defArgs s_read_expression) (defBody s_read_expression) (defScope s_read_expression) .none kV_read_expression dc_read_expression pm_read_expression an_read_expression cd_read_expression ct_read_expression), sl_read_expression⟩) (c_read_expression : PySem.W.codeIn K cd_read_expression "_read_expression" = true) (k_read_expression : PySem.W.keepIn K (.ref f_read_expression) = true)
    (a_read_condition : PySem.W.nsIn K mainGlobals "_read_condition" = some (some (.ref f_read_condition))) (l_read_condition : K.lookup f_read_condition = some ⟨oc_read_condition, od_read_condition, .func (PySem.W.fnOf "_read_condition" "_read_condition" (defArgs s_read_condition) (defBody s_read_condition) (defScope s_read_condition) .none kV_read_condition dc_read_condition pm_read_condition an_read_condition cd_read_condition ct_read_condition), sl_read_condition⟩) (c_read_condition : PySem.W.codeIn K cd_read_condition "_read_condition" = true) (k_read_condition : PySem.W.keepIn K (.ref f_read_condition) = true)
    (a_read_parts : PySem.W.nsIn K mainGlobals "_read_parts" = some (some (.ref f_read_parts))) (l_read_parts : K.lookup f_read_parts = some ⟨oc_read_parts, od_read_parts, .func (PySem.W.fnOf "_read_parts" "_read_parts" (defArgs s_read_parts) (defBody s_read_parts) (defScope s_read_parts) .none kV_read_parts dc_read_parts pm_read_parts an_read_parts cd_read_parts ct_read_parts), sl_read_parts⟩) (c_read_parts : PySem.W.codeIn K cd_read_parts "_read_parts" = true) (k_read_parts : PySem.W.keepIn K (.ref f_read_parts) = true)
    (a_read_conditions : PySem.W.nsIn K mainGlobals "_read_conditions" = some (some (.ref f_read_conditions))) (l_read_conditions : K.lookup f_read_conditions = some ⟨oc_read_conditions, od_read_conditions, .func (PySem.W.fnOf "_read_conditions" "_read_conditions" (defArgs s_read_conditions) (defBody s_read_conditions) (defScope s_read_conditions) .none kV_read_conditions dc_read_conditions pm_read_conditions an_read_conditions cd_read_conditions ct_read_conditions), sl_read_conditions⟩) (c_read_conditions : PySem.W.codeIn K cd_read_conditions "_read_conditions" = true) (k_read_conditions : PySem.W.keepIn K (.ref f_read_conditions) = true)
    (aread_expression : PySem.W.nsIn K mainGlobals "read_expression" = some (some (.ref fread_expression))) (lread_expression : K.lookup fread_expression = some ⟨ocread_expression, odread_expression, .func (PySem.W.fnOf "read_expression" "read_expression" (defArgs sread_expression) (defBody sread_expression) (defScope sread_expression) .none kVread_expression dcread_expression pmread_expression anread_expression cdread_expression ctread_expression), slread_expression⟩) (cread_expression : PySem.W.codeIn K cdread_expression "read_expression" = true) (kread_expression : PySem.W.keepIn K (.ref fread_expression) = true)
    (aread_condition : PySem.W.nsIn K mainGlobals "read_condition" = some (some (.ref fread_condition))) (lread_condition : K.lookup fread_condition = some ⟨ocread_condition, odread_condition, .func (PySem.W.fnOf "read_condition" "read_condition" (defArgs sread_condition) (defBody sread_condition) (defScope sread_condition) .none kVread_condition dcread_condition pmread_condition anread_condition cdread_condition ctread_condition), slread_condition⟩) (cread_condition : PySem.W.codeIn K cdread_condition "read_condition" = true) (kread_condition : PySem.W.keepIn K (.ref fread_condition) = true)
    (a_law_draws : PySem.W.nsIn K mainGlobals "_law_draws" = some (some (.ref f_law_draws))) (l_law_draws : K.lookup f_law_draws = some ⟨oc_law_draws, od_law_draws, .func (PySem.W.fnOf "_law_draws" "_law_draws" (defArgs s_law_draws) (defBody s_law_draws) (defScope s_law_draws) .none kV_law_draws dc_law_draws pm_law_draws an_law_draws cd_law_draws ct_law_draws), sl_law_draws⟩) (c_law_draws : PySem.W.codeIn K cd_law_draws "_law_draws" = true) (k_law_draws : PySem.W.keepIn K (.ref f_law_draws) = true)
    (a_law_take : PySem.W.nsIn K mainGlobals "_law_take" = some (some (.ref f_law_take))) (l_law_take : K.lookup f_law_take = some ⟨oc_law_take, od_law_take, .func (PySem.W.fnOf "_law_take" "_law_take" (defArgs s_law_take) (defBody s_law_take) (defScope s_law_take) .none kV_law_take dc_law_take pm_law_take an_law_take cd_law_take ct_law_take), sl_law_take⟩) (c_law_take : PySem.W.codeIn K cd_law_take "_law_take" = true) (k_law_take : PySem.W.keepIn K (.ref f_law_take) = true)
    (a_law_cell : PySem.W.nsIn K mainGlobals "_law_cell" = some (some (.ref f_law_cell))) (l_law_cell : K.lookup f_law_cell = some ⟨oc_law_cell, od_law_cell, .func (PySem.W.fnOf "_law_cell" "_law_cell" (defArgs s_law_cell) (defBody s_law_cell) (defScope s_law_cell) .none kV_law_cell dc_law_cell pm_law_cell an_law_cell cd_law_cell ct_law_cell), sl_law_cell⟩) (c_law_cell : PySem.W.codeIn K cd_law_cell "_law_cell" = true) (k_law_cell : PySem.W.keepIn K (.ref f_law_cell) = true)
    (a_law_word : PySem.W.nsIn K mainGlobals "_law_word" = some (some (.ref f_law_word))) (l_law_word : K.lookup f_law_word = some ⟨oc_law_word, od_law_word, .func (PySem.W.fnOf "_law_word" "_law_word" (defArgs s_law_word) (defBody s_law_word) (defScope s_law_word) .none kV_law_word dc_law_word pm_law_word an_law_word cd_law_word ct_law_word), sl_law_word⟩) (c_law_word : PySem.W.codeIn K cd_law_word "_law_word" = true) (k_law_word : PySem.W.keepIn K (.ref f_law_word) = true)
    (a_law_some_word : PySem.W.nsIn K mainGlobals "_law_some_word" = some (some (.ref f_law_some_word))) (l_law_some_word : K.lookup f_law_some_word = some ⟨oc_law_some_word, od_law_some_word, .func (PySem.W.fnOf "_law_some_word" "_law_some_word" (defArgs s_law_some_word) (defBody s_law_some_word) (defScope s_law_some_word) .none kV_law_some_word dc_law_some_word pm_law_some_word an_law_some_word cd_law_some_word ct_law_some_word), sl_law_some_word⟩) (c_law_some_word : PySem.W.codeIn K cd_law_some_word "_law_some_word" = true) (k_law_some_word : PySem.W.keepIn K (.ref f_law_some_word) = true)
    (a_law_reserved : PySem.W.nsIn K mainGlobals "_law_reserved" = some (some (.ref f_law_reserved))) (l_law_reserved : K.lookup f_law_reserved = some ⟨oc_law_reserved, od_law_reserved, .func (PySem.W.fnOf "_law_reserved" "_law_reserved" (defArgs s_law_reserved) (defBody s_law_reserved) (defScope s_law_reserved) .none kV_law_reserved dc_law_reserved pm_law_reserved an_law_reserved cd_law_reserved ct_law_reserved), sl_law_reserved⟩) (c_law_reserved : PySem.W.codeIn K cd_law_reserved "_law_reserved" = true) (k_law_reserved : PySem.W.keepIn K (.ref f_law_reserved) = true)
    (a_law_name : PySem.W.nsIn K mainGlobals "_law_name" = some (some (.ref f_law_name))) (l_law_name : K.lookup f_law_name = some ⟨oc_law_name, od_law_name, .func (PySem.W.fnOf "_law_name" "_law_name" (defArgs s_law_name) (defBody s_law_name) (defScope s_law_name) .none kV_law_name dc_law_name pm_law_name an_law_name cd_law_name ct_law_name), sl_law_name⟩) (c_law_name : PySem.W.codeIn K cd_law_name "_law_name" = true) (k_law_name : PySem.W.keepIn K (.ref f_law_name) = true)
    (a_law_names : PySem.W.nsIn K mainGlobals "_law_names" = some (some (.ref f_law_names))) (l_law_names : K.lookup f_law_names = some ⟨oc_law_names, od_law_names, .func (PySem.W.fnOf "_law_names" "_law_names" (defArgs s_law_names) (defBody s_law_names) (defScope s_law_names) .none kV_law_names dc_law_names pm_law_names an_law_names cd_law_names ct_law_names), sl_law_names⟩) (c_law_names : PySem.W.codeIn K cd_law_names "_law_names" = true) (k_law_names : PySem.W.keepIn K (.ref f_law_names) = true)
    (a_law_is_integer : PySem.W.nsIn K mainGlobals "_law_is_integer" = some (some (.ref f_law_is_integer))) (l_law_is_integer : K.lookup f_law_is_integer = some ⟨oc_law_is_integer, od_law_is_integer, .func (PySem.W.fnOf "_law_is_integer" "_law_is_integer" (defArgs s_law_is_integer) (defBody s_law_is_integer) (defScope s_law_is_integer) .none kV_law_is_integer dc_law_is_integer pm_law_is_integer an_law_is_integer cd_law_is_integer ct_law_is_integer), sl_law_is_integer⟩) (c_law_is_integer : PySem.W.codeIn K cd_law_is_integer "_law_is_integer" = true) (k_law_is_integer : PySem.W.keepIn K (.ref f_law_is_integer) = true)
    (a_law_number : PySem.W.nsIn K mainGlobals "_law_number" = some (some (.ref f_law_number))) (l_law_number : K.lookup f_law_number = some ⟨oc_law_number, od_law_number, .func (PySem.W.fnOf "_law_number" "_law_number" (defArgs s_law_number) (defBody s_law_number) (defScope s_law_number) .none kV_law_number dc_law_number pm_law_number an_law_number cd_law_number ct_law_number), sl_law_number⟩) (c_law_number : PySem.W.codeIn K cd_law_number "_law_number" = true) (k_law_number : PySem.W.keepIn K (.ref f_law_number) = true)
    (a_law_leaf : PySem.W.nsIn K mainGlobals "_law_leaf" = some (some (.ref f_law_leaf))) (l_law_leaf : K.lookup f_law_leaf = some ⟨oc_law_leaf, od_law_leaf, .func (PySem.W.fnOf "_law_leaf" "_law_leaf" (defArgs s_law_leaf) (defBody s_law_leaf) (defScope s_law_leaf) .none kV_law_leaf dc_law_leaf pm_law_leaf an_law_leaf cd_law_leaf ct_law_leaf), sl_law_leaf⟩) (c_law_leaf : PySem.W.codeIn K cd_law_leaf "_law_leaf" = true) (k_law_leaf : PySem.W.keepIn K (.ref f_law_leaf) = true)
    (a_law_expression : PySem.W.nsIn K mainGlobals "_law_expression" = some (some (.ref f_law_expression))) (l_law_expression : K.lookup f_law_expression = some ⟨oc_law_expression, od_law_expression, .func (PySem.W.fnOf "_law_expression" "_law_expression" (defArgs s_law_expression) (defBody s_law_expression) (defScope s_law_expression) .none kV_law_expression dc_law_expression pm_law_expression an_law_expression cd_law_expression ct_law_expression), sl_law_expression⟩) (c_law_expression : PySem.W.codeIn K cd_law_expression "_law_expression" = true) (k_law_expression : PySem.W.keepIn K (.ref f_law_expression) = true)
    (a_law_test : PySem.W.nsIn K mainGlobals "_law_test" = some (some (.ref f_law_test))) (l_law_test : K.lookup f_law_test = some ⟨oc_law_test, od_law_test, .func (PySem.W.fnOf "_law_test" "_law_test" (defArgs s_law_test) (defBody s_law_test) (defScope s_law_test) .none kV_law_test dc_law_test pm_law_test an_law_test cd_law_test ct_law_test), sl_law_test⟩) (c_law_test : PySem.W.codeIn K cd_law_test "_law_test" = true) (k_law_test : PySem.W.keepIn K (.ref f_law_test) = true)
    (a_law_inner : PySem.W.nsIn K mainGlobals "_law_inner" = some (some (.ref f_law_inner))) (l_law_inner : K.lookup f_law_inner = some ⟨oc_law_inner, od_law_inner, .func (PySem.W.fnOf "_law_inner" "_law_inner" (defArgs s_law_inner) (defBody s_law_inner) (defScope s_law_inner) .none kV_law_inner dc_law_inner pm_law_inner an_law_inner cd_law_inner ct_law_inner), sl_law_inner⟩) (c_law_inner : PySem.W.codeIn K cd_law_inner "_law_inner" = true) (k_law_inner : PySem.W.keepIn K (.ref f_law_inner) = true)
    (a_law_depth : PySem.W.nsIn K mainGlobals "_law_depth" = some (some (.ref f_law_depth))) (l_law_depth : K.lookup f_law_depth = some ⟨oc_law_depth, od_law_depth, .func (PySem.W.fnOf "_law_depth" "_law_depth" (defArgs s_law_depth) (defBody s_law_depth) (defScope s_law_depth) .none kV_law_depth dc_law_depth pm_law_depth an_law_depth cd_law_depth ct_law_depth), sl_law_depth⟩) (c_law_depth : PySem.W.codeIn K cd_law_depth "_law_depth" = true) (k_law_depth : PySem.W.keepIn K (.ref f_law_depth) = true)
    (a_law_is_test : PySem.W.nsIn K mainGlobals "_law_is_test" = some (some (.ref f_law_is_test))) (l_law_is_test : K.lookup f_law_is_test = some ⟨oc_law_is_test, od_law_is_test, .func (PySem.W.fnOf "_law_is_test" "_law_is_test" (defArgs s_law_is_test) (defBody s_law_is_test) (defScope s_law_is_test) .none kV_law_is_test dc_law_is_test pm_law_is_test an_law_is_test cd_law_is_test ct_law_is_test), sl_law_is_test⟩) (c_law_is_test : PySem.W.codeIn K cd_law_is_test "_law_is_test" = true) (k_law_is_test : PySem.W.keepIn K (.ref f_law_is_test) = true)
    (a_law_around : PySem.W.nsIn K mainGlobals "_law_around" = some (some (.ref f_law_around))) (l_law_around : K.lookup f_law_around = some ⟨oc_law_around, od_law_around, .func (PySem.W.fnOf "_law_around" "_law_around" (defArgs s_law_around) (defBody s_law_around) (defScope s_law_around) .none kV_law_around dc_law_around pm_law_around an_law_around cd_law_around ct_law_around), sl_law_around⟩) (c_law_around : PySem.W.codeIn K cd_law_around "_law_around" = true) (k_law_around : PySem.W.keepIn K (.ref f_law_around) = true)
    (a_law_many : PySem.W.nsIn K mainGlobals "_law_many" = some (some (.ref f_law_many))) (l_law_many : K.lookup f_law_many = some ⟨oc_law_many, od_law_many, .func (PySem.W.fnOf "_law_many" "_law_many" (defArgs s_law_many) (defBody s_law_many) (defScope s_law_many) .none kV_law_many dc_law_many pm_law_many an_law_many cd_law_many ct_law_many), sl_law_many⟩) (c_law_many : PySem.W.codeIn K cd_law_many "_law_many" = true) (k_law_many : PySem.W.keepIn K (.ref f_law_many) = true)
    (a_law_great : PySem.W.nsIn K mainGlobals "_law_great" = some (some (.ref f_law_great))) (l_law_great : K.lookup f_law_great = some ⟨oc_law_great, od_law_great, .func (PySem.W.fnOf "_law_great" "_law_great" (defArgs s_law_great) (defBody s_law_great) (defScope s_law_great) .none kV_law_great dc_law_great pm_law_great an_law_great cd_law_great ct_law_great), sl_law_great⟩) (c_law_great : PySem.W.codeIn K cd_law_great "_law_great" = true) (k_law_great : PySem.W.keepIn K (.ref f_law_great) = true)
    (a_law_tokens : PySem.W.nsIn K mainGlobals "_law_tokens" = some (some (.ref f_law_tokens))) (l_law_tokens : K.lookup f_law_tokens = some ⟨oc_law_tokens, od_law_tokens, .func (PySem.W.fnOf "_law_tokens" "_law_tokens" (defArgs s_law_tokens) (defBody s_law_tokens) (defScope s_law_tokens) .none kV_law_tokens dc_law_tokens pm_law_tokens an_law_tokens cd_law_tokens ct_law_tokens), sl_law_tokens⟩) (c_law_tokens : PySem.W.codeIn K cd_law_tokens "_law_tokens" = true) (k_law_tokens : PySem.W.keepIn K (.ref f_law_tokens) = true)
    (a_law_text_item : PySem.W.nsIn K mainGlobals "_law_text_item" = some (some (.ref f_law_text_item))) (l_law_text_item : K.lookup f_law_text_item = some ⟨oc_law_text_item, od_law_text_item, .func (PySem.W.fnOf "_law_text_item" "_law_text_item" (defArgs s_law_text_item) (defBody s_law_text_item) (defScope s_law_text_item) .none kV_law_text_item dc_law_text_item pm_law_text_item an_law_text_item cd_law_text_item ct_law_text_item), sl_law_text_item⟩) (c_law_text_item : PySem.W.codeIn K cd_law_text_item "_law_text_item" = true) (k_law_text_item : PySem.W.keepIn K (.ref f_law_text_item) = true)
    (a_law_is_joined : PySem.W.nsIn K mainGlobals "_law_is_joined" = some (some (.ref f_law_is_joined))) (l_law_is_joined : K.lookup f_law_is_joined = some ⟨oc_law_is_joined, od_law_is_joined, .func (PySem.W.fnOf "_law_is_joined" "_law_is_joined" (defArgs s_law_is_joined) (defBody s_law_is_joined) (defScope s_law_is_joined) .none kV_law_is_joined dc_law_is_joined pm_law_is_joined an_law_is_joined cd_law_is_joined ct_law_is_joined), sl_law_is_joined⟩) (c_law_is_joined : PySem.W.codeIn K cd_law_is_joined "_law_is_joined" = true) (k_law_is_joined : PySem.W.keepIn K (.ref f_law_is_joined) = true)
    (a_law_spaced : PySem.W.nsIn K mainGlobals "_law_spaced" = some (some (.ref f_law_spaced))) (l_law_spaced : K.lookup f_law_spaced = some ⟨oc_law_spaced, od_law_spaced, .func (PySem.W.fnOf "_law_spaced" "_law_spaced" (defArgs s_law_spaced) (defBody s_law_spaced) (defScope s_law_spaced) .none kV_law_spaced dc_law_spaced pm_law_spaced an_law_spaced cd_law_spaced ct_law_spaced), sl_law_spaced⟩) (c_law_spaced : PySem.W.codeIn K cd_law_spaced "_law_spaced" = true) (k_law_spaced : PySem.W.keepIn K (.ref f_law_spaced) = true)
    (a_law_pattern : PySem.W.nsIn K mainGlobals "_law_pattern" = some (some (.ref f_law_pattern))) (l_law_pattern : K.lookup f_law_pattern = some ⟨oc_law_pattern, od_law_pattern, .func (PySem.W.fnOf "_law_pattern" "_law_pattern" (defArgs s_law_pattern) (defBody s_law_pattern) (defScope s_law_pattern) .none kV_law_pattern dc_law_pattern pm_law_pattern an_law_pattern cd_law_pattern ct_law_pattern), sl_law_pattern⟩) (c_law_pattern : PySem.W.codeIn K cd_law_pattern "_law_pattern" = true) (k_law_pattern : PySem.W.keepIn K (.ref f_law_pattern) = true)
    (a_law_put : PySem.W.nsIn K mainGlobals "_law_put" = some (some (.ref f_law_put))) (l_law_put : K.lookup f_law_put = some ⟨oc_law_put, od_law_put, .func (PySem.W.fnOf "_law_put" "_law_put" (defArgs s_law_put) (defBody s_law_put) (defScope s_law_put) .none kV_law_put dc_law_put pm_law_put an_law_put cd_law_put ct_law_put), sl_law_put⟩) (c_law_put : PySem.W.codeIn K cd_law_put "_law_put" = true) (k_law_put : PySem.W.keepIn K (.ref f_law_put) = true)
    (a_law_fits : PySem.W.nsIn K mainGlobals "_law_fits" = some (some (.ref f_law_fits))) (l_law_fits : K.lookup f_law_fits = some ⟨oc_law_fits, od_law_fits, .func (PySem.W.fnOf "_law_fits" "_law_fits" (defArgs s_law_fits) (defBody s_law_fits) (defScope s_law_fits) .none kV_law_fits dc_law_fits pm_law_fits an_law_fits cd_law_fits ct_law_fits), sl_law_fits⟩) (c_law_fits : PySem.W.codeIn K cd_law_fits "_law_fits" = true) (k_law_fits : PySem.W.keepIn K (.ref f_law_fits) = true)
    (a_law_bad_token : PySem.W.nsIn K mainGlobals "_law_bad_token" = some (some (.ref f_law_bad_token))) (l_law_bad_token : K.lookup f_law_bad_token = some ⟨oc_law_bad_token, od_law_bad_token, .func (PySem.W.fnOf "_law_bad_token" "_law_bad_token" (defArgs s_law_bad_token) (defBody s_law_bad_token) (defScope s_law_bad_token) .none kV_law_bad_token dc_law_bad_token pm_law_bad_token an_law_bad_token cd_law_bad_token ct_law_bad_token), sl_law_bad_token⟩) (c_law_bad_token : PySem.W.codeIn K cd_law_bad_token "_law_bad_token" = true) (k_law_bad_token : PySem.W.keepIn K (.ref f_law_bad_token) = true)
    (a_law_misfit : PySem.W.nsIn K mainGlobals "_law_misfit" = some (some (.ref f_law_misfit))) (l_law_misfit : K.lookup f_law_misfit = some ⟨oc_law_misfit, od_law_misfit, .func (PySem.W.fnOf "_law_misfit" "_law_misfit" (defArgs s_law_misfit) (defBody s_law_misfit) (defScope s_law_misfit) .none kV_law_misfit dc_law_misfit pm_law_misfit an_law_misfit cd_law_misfit ct_law_misfit), sl_law_misfit⟩) (c_law_misfit : PySem.W.codeIn K cd_law_misfit "_law_misfit" = true) (k_law_misfit : PySem.W.keepIn K (.ref f_law_misfit) = true)
    (a_law_error_name : PySem.W.nsIn K mainGlobals "_law_error_name" = some (some (.ref f_law_error_name))) (l_law_error_name : K.lookup f_law_error_name = some ⟨oc_law_error_name, od_law_error_name, .func (PySem.W.fnOf "_law_error_name" "_law_error_name" (defArgs s_law_error_name) (defBody s_law_error_name) (defScope s_law_error_name) .none kV_law_error_name dc_law_error_name pm_law_error_name an_law_error_name cd_law_error_name ct_law_error_name), sl_law_error_name⟩) (c_law_error_name : PySem.W.codeIn K cd_law_error_name "_law_error_name" = true) (k_law_error_name : PySem.W.keepIn K (.ref f_law_error_name) = true)
    (a_law_gap : PySem.W.nsIn K mainGlobals "_law_gap" = some (some (.ref f_law_gap))) (l_law_gap : K.lookup f_law_gap = some ⟨oc_law_gap, od_law_gap, .func (PySem.W.fnOf "_law_gap" "_law_gap" (defArgs s_law_gap) (defBody s_law_gap) (defScope s_law_gap) .none kV_law_gap dc_law_gap pm_law_gap an_law_gap cd_law_gap ct_law_gap), sl_law_gap⟩) (c_law_gap : PySem.W.codeIn K cd_law_gap "_law_gap" = true) (k_law_gap : PySem.W.keepIn K (.ref f_law_gap) = true)
    (a_law_refused : PySem.W.nsIn K mainGlobals "_law_refused" = some (some (.ref f_law_refused))) (l_law_refused : K.lookup f_law_refused = some ⟨oc_law_refused, od_law_refused, .func (PySem.W.fnOf "_law_refused" "_law_refused" (defArgs s_law_refused) (defBody s_law_refused) (defScope s_law_refused) .none kV_law_refused dc_law_refused pm_law_refused an_law_refused cd_law_refused ct_law_refused), sl_law_refused⟩) (c_law_refused : PySem.W.codeIn K cd_law_refused "_law_refused" = true) (k_law_refused : PySem.W.keepIn K (.ref f_law_refused) = true)
    (alaw : PySem.W.nsIn K mainGlobals "law" = some (some (.ref flaw))) (llaw : K.lookup flaw = some ⟨oclaw, odlaw, .func (PySem.W.fnOf "law" "law" (defArgs slaw) (defBody slaw) (defScope slaw) .none kVlaw dclaw pmlaw anlaw cdlaw ctlaw), sllaw⟩) (claw : PySem.W.codeIn K cdlaw "law" = true) (klaw : PySem.W.keepIn K (.ref flaw) = true)
    (g_LETTERS : PySem.W.nsIn K mainGlobals "LETTERS" = some (some u_LETTERS)) (r_LETTERS : L2.RelV (.str "abcdefghijklmnopqrstuvwxyz") u_LETTERS)
    (g_DIGITS : PySem.W.nsIn K mainGlobals "DIGITS" = some (some u_DIGITS)) (r_DIGITS : L2.RelV (.str "0123456789") u_DIGITS)
    (g_MOST_DIGITS : PySem.W.nsIn K mainGlobals "MOST_DIGITS" = some (some u_MOST_DIGITS)) (r_MOST_DIGITS : L2.RelV (.int 60) u_MOST_DIGITS)
    (g_WORDS : PySem.W.nsIn K mainGlobals "WORDS" = some (some (.ref c_WORDS))) (k_WORDS : KT K c_WORDS [(.str "true"), (.str "false"), (.str "add"), (.str "sub"), (.str "mul"), (.str "div"), (.str "mod"), (.str "min"), (.str "max"), (.str "abs"), (.str "if"), (.str "less"), (.str "equal"), (.str "not"), (.str "all"), (.str "any")])
    (g_MOST_DEPTH : PySem.W.nsIn K mainGlobals "MOST_DEPTH" = some (some u_MOST_DEPTH)) (r_MOST_DEPTH : L2.RelV (.int 12) u_MOST_DEPTH)
    (g_EXPRESSION_PARTS : PySem.W.nsIn K mainGlobals "EXPRESSION_PARTS" = some (some (.ref c_EXPRESSION_PARTS))) (d_EXPRESSION_PARTS : List.lookup c_EXPRESSION_PARTS K = some { cls := .type "dict", data := .dict e_EXPRESSION_PARTS n_EXPRESSION_PARTS }) (l_EXPRESSION_PARTS : PySem.W.KeysLit w.params e_EXPRESSION_PARTS.toList) (s_EXPRESSION_PARTS : (c_EXPRESSION_PARTS == sysModules) = false) (y_EXPRESSION_PARTS : e_EXPRESSION_PARTS.toList.map (fun e => kstr e.key) = rows_EXPRESSION_PARTS.map (·.1))
    (q0_EXPRESSION_PARTS : PySem.W.nsIn K c_EXPRESSION_PARTS "add" = some (some (.ref t0_EXPRESSION_PARTS))) (k0_EXPRESSION_PARTS : KT K t0_EXPRESSION_PARTS [(.str "expression"), (.str "expression")])
    (q1_EXPRESSION_PARTS : PySem.W.nsIn K c_EXPRESSION_PARTS "sub" = some (some (.ref t1_EXPRESSION_PARTS))) (k1_EXPRESSION_PARTS : KT K t1_EXPRESSION_PARTS [(.str "expression"), (.str "expression")])
    (q2_EXPRESSION_PARTS : PySem.W.nsIn K c_EXPRESSION_PARTS "mul" = some (some (.ref t2_EXPRESSION_PARTS))) (k2_EXPRESSION_PARTS : KT K t2_EXPRESSION_PARTS [(.str "expression"), (.str "expression")])
    (q3_EXPRESSION_PARTS : PySem.W.nsIn K c_EXPRESSION_PARTS "div" = some (some (.ref t3_EXPRESSION_PARTS))) (k3_EXPRESSION_PARTS : KT K t3_EXPRESSION_PARTS [(.str "expression"), (.str "divisor")])
    (q4_EXPRESSION_PARTS : PySem.W.nsIn K c_EXPRESSION_PARTS "mod" = some (some (.ref t4_EXPRESSION_PARTS))) (k4_EXPRESSION_PARTS : KT K t4_EXPRESSION_PARTS [(.str "expression"), (.str "divisor")])
    (q5_EXPRESSION_PARTS : PySem.W.nsIn K c_EXPRESSION_PARTS "min" = some (some (.ref t5_EXPRESSION_PARTS))) (k5_EXPRESSION_PARTS : KT K t5_EXPRESSION_PARTS [(.str "expression"), (.str "expression")])
    (q6_EXPRESSION_PARTS : PySem.W.nsIn K c_EXPRESSION_PARTS "max" = some (some (.ref t6_EXPRESSION_PARTS))) (k6_EXPRESSION_PARTS : KT K t6_EXPRESSION_PARTS [(.str "expression"), (.str "expression")])
    (q7_EXPRESSION_PARTS : PySem.W.nsIn K c_EXPRESSION_PARTS "abs" = some (some (.ref t7_EXPRESSION_PARTS))) (k7_EXPRESSION_PARTS : KT K t7_EXPRESSION_PARTS [(.str "expression")])
    (q8_EXPRESSION_PARTS : PySem.W.nsIn K c_EXPRESSION_PARTS "if" = some (some (.ref t8_EXPRESSION_PARTS))) (k8_EXPRESSION_PARTS : KT K t8_EXPRESSION_PARTS [(.str "condition"), (.str "expression"), (.str "expression")])
    (g_CONDITION_PARTS : PySem.W.nsIn K mainGlobals "CONDITION_PARTS" = some (some (.ref c_CONDITION_PARTS))) (d_CONDITION_PARTS : List.lookup c_CONDITION_PARTS K = some { cls := .type "dict", data := .dict e_CONDITION_PARTS n_CONDITION_PARTS }) (l_CONDITION_PARTS : PySem.W.KeysLit w.params e_CONDITION_PARTS.toList) (s_CONDITION_PARTS : (c_CONDITION_PARTS == sysModules) = false) (y_CONDITION_PARTS : e_CONDITION_PARTS.toList.map (fun e => kstr e.key) = rows_CONDITION_PARTS.map (·.1))
    (q0_CONDITION_PARTS : PySem.W.nsIn K c_CONDITION_PARTS "less" = some (some (.ref t0_CONDITION_PARTS))) (k0_CONDITION_PARTS : KT K t0_CONDITION_PARTS [(.str "expression"), (.str "expression")])
    (q1_CONDITION_PARTS : PySem.W.nsIn K c_CONDITION_PARTS "equal" = some (some (.ref t1_CONDITION_PARTS))) (k1_CONDITION_PARTS : KT K t1_CONDITION_PARTS [(.str "expression"), (.str "expression")])
    (q2_CONDITION_PARTS : PySem.W.nsIn K c_CONDITION_PARTS "not" = some (some (.ref t2_CONDITION_PARTS))) (k2_CONDITION_PARTS : KT K t2_CONDITION_PARTS [(.str "condition")])
    (g_ControlError : PySem.W.nsIn K mainGlobals "ControlError" = some (some (.ref c_ControlError)))
    (g_InvalidExpression : PySem.W.nsIn K mainGlobals "InvalidExpression" = some (some (.ref c_InvalidExpression)))
    (g_InvalidPlant : PySem.W.nsIn K mainGlobals "InvalidPlant" = some (some (.ref c_InvalidPlant)))
    (g_InvalidArena : PySem.W.nsIn K mainGlobals "InvalidArena" = some (some (.ref c_InvalidArena)))
    (g_InvalidGoal : PySem.W.nsIn K mainGlobals "InvalidGoal" = some (some (.ref c_InvalidGoal)))
    (g_BadText : PySem.W.nsIn K mainGlobals "BadText" = some (some (.ref c_BadText)))
    (g_NoPosition : PySem.W.nsIn K mainGlobals "NoPosition" = some (some (.ref c_NoPosition)))
    (g_Held : PySem.W.nsIn K mainGlobals "Held" = some (some (.ref c_Held)))
    (g_NotHeld : PySem.W.nsIn K mainGlobals "NotHeld" = some (some (.ref c_NotHeld)))
    (g_BadReply : PySem.W.nsIn K mainGlobals "BadReply" = some (some (.ref c_BadReply)))
    (g_Lost : PySem.W.nsIn K mainGlobals "Lost" = some (some (.ref c_Lost)))
    (ex_cls : K.lookup c_BadText = some (excClassObj xnm xq c_BadText xN xbs xbm true xsn xsub xab xcol xdd xm0 xm1 xm2 xm3 xm5 "ValueError.__new__")) (ex_rv : PySem.HandSPX.refsVE xbm = true)
    (ex_sa : PySem.W.findIn K (.ref c_BadText) "__setattr__" = some (some (.builtin "object.__setattr__"))) (ex_ty : PySem.W.typeIn K (.ref c_BadText) = some (.type "type"))
    (ex_n_line : PySem.W.findIn K (.ref c_BadText) "line" = some none)
    (ex_n_column : PySem.W.findIn K (.ref c_BadText) "column" = some none)
    (ex_iI : PySem.W.findIn K (.ref c_BadText) "__init__" = some (some (.ref fI))) (ex_tI : PySem.W.typeIn K (.ref fI) = some (.type "function"))
    (ex_lI : K.lookup fI = some ⟨ocI, odI, .func (PySem.W.fnOf "__init__" "BadText.__init__" (defArgs sI_BadText) (defBody sI_BadText) (defScope sI_BadText) .none kVI dcI pmI anI cdI ctI), slI⟩) (ex_cI : PySem.W.codeIn K cdI "BadText.__init__" = true) (ex_kI : PySem.W.keepIn K (.ref fI) = true)
    (ex_k : PySem.W.keepIn K (.ref c_BadText) = true) (ex_b : PySem.W.subIn K (.ref c_BadText) (.type "BaseException") = some true) (ex_sV : PySem.W.subIn K (.ref c_BadText) (.type "ValueError") = some true) (ex_bC : PySem.W.subIn K (.ref c_ControlError) (.type "BaseException") = some true)
    (ex_hg : PySem.W.findIn K (.ref c_BadText) "__getattribute__" = some (some (.builtin "BaseException.__getattribute__"))) (ex_hk : PySem.W.findIn K (.ref c_BadText) "__getattr__" = some none) (ex_hd : PySem.W.hasDictIn K c_BadText = true) (ex_ha : PySem.W.findIn K (.ref c_BadText) "__class__" = some (some (.builtin "object.__class__"))) (ex_hn : PySem.W.specialIn K (.builtin "object.__class__") "__get__" = some (some (.builtin "getset_descriptor.__get__"))) (ex_ht : PySem.W.takesIn K (.builtin "object.__class__") = some true) (ex_hm : PySem.W.mroIn K c_BadText (.type "object") = some true)
    (i_ControlError : PySem.W.isClsIn K c_ControlError = true) (t_ControlError : PySem.W.typeIn K (.ref c_ControlError) = some (.type "type")) (s_ControlError : PySem.W.subIn K (.ref c_BadText) (.ref c_ControlError) = some true)
    (i_InvalidExpression : PySem.W.isClsIn K c_InvalidExpression = true) (t_InvalidExpression : PySem.W.typeIn K (.ref c_InvalidExpression) = some (.type "type")) (s_InvalidExpression : PySem.W.subIn K (.ref c_BadText) (.ref c_InvalidExpression) = some false)
    (i_InvalidPlant : PySem.W.isClsIn K c_InvalidPlant = true) (t_InvalidPlant : PySem.W.typeIn K (.ref c_InvalidPlant) = some (.type "type")) (s_InvalidPlant : PySem.W.subIn K (.ref c_BadText) (.ref c_InvalidPlant) = some false)
    (i_InvalidArena : PySem.W.isClsIn K c_InvalidArena = true) (t_InvalidArena : PySem.W.typeIn K (.ref c_InvalidArena) = some (.type "type")) (s_InvalidArena : PySem.W.subIn K (.ref c_BadText) (.ref c_InvalidArena) = some false)
    (i_InvalidGoal : PySem.W.isClsIn K c_InvalidGoal = true) (t_InvalidGoal : PySem.W.typeIn K (.ref c_InvalidGoal) = some (.type "type")) (s_InvalidGoal : PySem.W.subIn K (.ref c_BadText) (.ref c_InvalidGoal) = some false)
    (i_BadText : PySem.W.isClsIn K c_BadText = true) (t_BadText : PySem.W.typeIn K (.ref c_BadText) = some (.type "type")) (s_BadText : PySem.W.subIn K (.ref c_BadText) (.ref c_BadText) = some true)
    (i_NoPosition : PySem.W.isClsIn K c_NoPosition = true) (t_NoPosition : PySem.W.typeIn K (.ref c_NoPosition) = some (.type "type")) (s_NoPosition : PySem.W.subIn K (.ref c_BadText) (.ref c_NoPosition) = some false)
    (i_Held : PySem.W.isClsIn K c_Held = true) (t_Held : PySem.W.typeIn K (.ref c_Held) = some (.type "type")) (s_Held : PySem.W.subIn K (.ref c_BadText) (.ref c_Held) = some false)
    (i_NotHeld : PySem.W.isClsIn K c_NotHeld = true) (t_NotHeld : PySem.W.typeIn K (.ref c_NotHeld) = some (.type "type")) (s_NotHeld : PySem.W.subIn K (.ref c_BadText) (.ref c_NotHeld) = some false)
    (i_BadReply : PySem.W.isClsIn K c_BadReply = true) (t_BadReply : PySem.W.typeIn K (.ref c_BadReply) = some (.type "type")) (s_BadReply : PySem.W.subIn K (.ref c_BadText) (.ref c_BadReply) = some false)
    (i_Lost : PySem.W.isClsIn K c_Lost = true) (t_Lost : PySem.W.typeIn K (.ref c_Lost) = some (.type "type")) (s_Lost : PySem.W.subIn K (.ref c_BadText) (.ref c_Lost) = some false)
    (z_ValueError : PySem.W.nsIn K mainGlobals "ValueError" = some none)
    (z_abs : PySem.W.nsIn K mainGlobals "abs" = some none)
    (z_bool : PySem.W.nsIn K mainGlobals "bool" = some none)
    (z_int : PySem.W.nsIn K mainGlobals "int" = some none)
    (z_isinstance : PySem.W.nsIn K mainGlobals "isinstance" = some none)
    (z_len : PySem.W.nsIn K mainGlobals "len" = some none)
    (z_list : PySem.W.nsIn K mainGlobals "list" = some none)
    (z_max : PySem.W.nsIn K mainGlobals "max" = some none)
    (z_range : PySem.W.nsIn K mainGlobals "range" = some none)
    (z_str : PySem.W.nsIn K mainGlobals "str" = some none)
    (z_tuple : PySem.W.nsIn K mainGlobals "tuple" = some none)
    : ∃ fd : FuncData, (∀ (s : Shared) (v : Value), BindsTo s fd ⟨[v], []⟩ [("script", v)]) ∧ ∀ base : Heap, K.In base → base.Ns mainGlobals mg → FnOk l.prog w K mg base CX0 50 fa fd ["script"] (spLaw K) := by
  have e := hfa.symm.trans (PySem.W.mg_of X G alaw)
  cases e
  let T : Txt K mg := {
    z_ValueError := PySem.W.mg_none_of X G z_ValueError
    z_abs := PySem.W.mg_none_of X G z_abs
    z_bool := PySem.W.mg_none_of X G z_bool
    z_int := PySem.W.mg_none_of X G z_int
    z_isinstance := PySem.W.mg_none_of X G z_isinstance
    z_len := PySem.W.mg_none_of X G z_len
    z_list := PySem.W.mg_none_of X G z_list
    z_max := PySem.W.mg_none_of X G z_max
    z_range := PySem.W.mg_none_of X G z_range
    z_str := PySem.W.mg_none_of X G z_str
    z_tuple := PySem.W.mg_none_of X G z_tuple
    u_LETTERS := u_LETTERS
    g_LETTERS := PySem.W.mg_of X G g_LETTERS
    r_LETTERS := r_LETTERS
    u_DIGITS := u_DIGITS
    g_DIGITS := PySem.W.mg_of X G g_DIGITS
    r_DIGITS := r_DIGITS
    u_MOST_DIGITS := u_MOST_DIGITS
    g_MOST_DIGITS := PySem.W.mg_of X G g_MOST_DIGITS
    r_MOST_DIGITS := r_MOST_DIGITS
    c_WORDS := c_WORDS
    g_WORDS := PySem.W.mg_of X G g_WORDS
    k_WORDS := k_WORDS
    u_MOST_DEPTH := u_MOST_DEPTH
    g_MOST_DEPTH := PySem.W.mg_of X G g_MOST_DEPTH
    r_MOST_DEPTH := r_MOST_DEPTH
    arun_end := frun_end
    drun_end := _
    Frun_end := fun_mk (st := srun_end) lrun_end crun_end krun_end
    mrun_end := PySem.W.mg_of X G arun_end
    ais_name := fis_name
    dis_name := _
    Fis_name := fun_mk (st := sis_name) lis_name cis_name kis_name
    mis_name := PySem.W.mg_of X G ais_name
    ais_integer := fis_integer
    dis_integer := _
    Fis_integer := fun_mk (st := sis_integer) lis_integer cis_integer kis_integer
    mis_integer := PySem.W.mg_of X G ais_integer
    atokens_of := ftokens_of
    dtokens_of := _
    Ftokens_of := fun_mk (st := stokens_of) ltokens_of ctokens_of ktokens_of
    mtokens_of := PySem.W.mg_of X G atokens_of
    a_piece_end := f_piece_end
    d_piece_end := _
    F_piece_end := fun_mk (st := s_piece_end) l_piece_end c_piece_end k_piece_end
    m_piece_end := PySem.W.mg_of X G a_piece_end
    aread_whole := fread_whole
    dread_whole := _
    Fread_whole := fun_mk (st := sread_whole) lread_whole cread_whole kread_whole
    mread_whole := PySem.W.mg_of X G aread_whole
    a_pass_token := f_pass_token
    d_pass_token := _
    F_pass_token := fun_mk (st := s_pass_token) l_pass_token c_pass_token k_pass_token
    m_pass_token := PySem.W.mg_of X G a_pass_token
    a_read_part := f_read_part
    d_read_part := _
    F_read_part := fun_mk (st := s_read_part) l_read_part c_read_part k_read_part
    m_read_part := PySem.W.mg_of X G a_read_part
    a_read_divisor := f_read_divisor
    d_read_divisor := _
    F_read_divisor := fun_mk (st := s_read_divisor) l_read_divisor c_read_divisor k_read_divisor
    m_read_divisor := PySem.W.mg_of X G a_read_divisor
    a_read_expression := f_read_expression
    d_read_expression := _
    F_read_expression := fun_mk (st := s_read_expression) l_read_expression c_read_expression k_read_expression
    m_read_expression := PySem.W.mg_of X G a_read_expression
    a_read_condition := f_read_condition
    d_read_condition := _
    F_read_condition := fun_mk (st := s_read_condition) l_read_condition c_read_condition k_read_condition
    m_read_condition := PySem.W.mg_of X G a_read_condition
    a_read_parts := f_read_parts
    d_read_parts := _
    F_read_parts := fun_mk (st := s_read_parts) l_read_parts c_read_parts k_read_parts
    m_read_parts := PySem.W.mg_of X G a_read_parts
    a_read_conditions := f_read_conditions
    d_read_conditions := _
    F_read_conditions := fun_mk (st := s_read_conditions) l_read_conditions c_read_conditions k_read_conditions
    m_read_conditions := PySem.W.mg_of X G a_read_conditions
    aread_expression := fread_expression
    dread_expression := _
    Fread_expression := fun_mk (st := sread_expression) lread_expression cread_expression kread_expression
    mread_expression := PySem.W.mg_of X G aread_expression
    aread_condition := fread_condition
    dread_condition := _
    Fread_condition := fun_mk (st := sread_condition) lread_condition cread_condition kread_condition
    mread_condition := PySem.W.mg_of X G aread_condition
    a_law_draws := f_law_draws
    d_law_draws := _
    F_law_draws := fun_mk (st := s_law_draws) l_law_draws c_law_draws k_law_draws
    m_law_draws := PySem.W.mg_of X G a_law_draws
    a_law_take := f_law_take
    d_law_take := _
    F_law_take := fun_mk (st := s_law_take) l_law_take c_law_take k_law_take
    m_law_take := PySem.W.mg_of X G a_law_take
    a_law_cell := f_law_cell
    d_law_cell := _
    F_law_cell := fun_mk (st := s_law_cell) l_law_cell c_law_cell k_law_cell
    m_law_cell := PySem.W.mg_of X G a_law_cell
    a_law_word := f_law_word
    d_law_word := _
    F_law_word := fun_mk (st := s_law_word) l_law_word c_law_word k_law_word
    m_law_word := PySem.W.mg_of X G a_law_word
    a_law_some_word := f_law_some_word
    d_law_some_word := _
    F_law_some_word := fun_mk (st := s_law_some_word) l_law_some_word c_law_some_word k_law_some_word
    m_law_some_word := PySem.W.mg_of X G a_law_some_word
    a_law_reserved := f_law_reserved
    d_law_reserved := _
    F_law_reserved := fun_mk (st := s_law_reserved) l_law_reserved c_law_reserved k_law_reserved
    m_law_reserved := PySem.W.mg_of X G a_law_reserved
    a_law_name := f_law_name
    d_law_name := _
    F_law_name := fun_mk (st := s_law_name) l_law_name c_law_name k_law_name
    m_law_name := PySem.W.mg_of X G a_law_name
    a_law_names := f_law_names
    d_law_names := _
    F_law_names := fun_mk (st := s_law_names) l_law_names c_law_names k_law_names
    m_law_names := PySem.W.mg_of X G a_law_names
    a_law_is_integer := f_law_is_integer
    d_law_is_integer := _
    F_law_is_integer := fun_mk (st := s_law_is_integer) l_law_is_integer c_law_is_integer k_law_is_integer
    m_law_is_integer := PySem.W.mg_of X G a_law_is_integer
    a_law_number := f_law_number
    d_law_number := _
    F_law_number := fun_mk (st := s_law_number) l_law_number c_law_number k_law_number
    m_law_number := PySem.W.mg_of X G a_law_number
    a_law_leaf := f_law_leaf
    d_law_leaf := _
    F_law_leaf := fun_mk (st := s_law_leaf) l_law_leaf c_law_leaf k_law_leaf
    m_law_leaf := PySem.W.mg_of X G a_law_leaf
    a_law_expression := f_law_expression
    d_law_expression := _
    F_law_expression := fun_mk (st := s_law_expression) l_law_expression c_law_expression k_law_expression
    m_law_expression := PySem.W.mg_of X G a_law_expression
    a_law_test := f_law_test
    d_law_test := _
    F_law_test := fun_mk (st := s_law_test) l_law_test c_law_test k_law_test
    m_law_test := PySem.W.mg_of X G a_law_test
    a_law_inner := f_law_inner
    d_law_inner := _
    F_law_inner := fun_mk (st := s_law_inner) l_law_inner c_law_inner k_law_inner
    m_law_inner := PySem.W.mg_of X G a_law_inner
    a_law_depth := f_law_depth
    d_law_depth := _
    F_law_depth := fun_mk (st := s_law_depth) l_law_depth c_law_depth k_law_depth
    m_law_depth := PySem.W.mg_of X G a_law_depth
    a_law_is_test := f_law_is_test
    d_law_is_test := _
    F_law_is_test := fun_mk (st := s_law_is_test) l_law_is_test c_law_is_test k_law_is_test
    m_law_is_test := PySem.W.mg_of X G a_law_is_test
    a_law_around := f_law_around
    d_law_around := _
    F_law_around := fun_mk (st := s_law_around) l_law_around c_law_around k_law_around
    m_law_around := PySem.W.mg_of X G a_law_around
    a_law_many := f_law_many
    d_law_many := _
    F_law_many := fun_mk (st := s_law_many) l_law_many c_law_many k_law_many
    m_law_many := PySem.W.mg_of X G a_law_many
    a_law_great := f_law_great
    d_law_great := _
    F_law_great := fun_mk (st := s_law_great) l_law_great c_law_great k_law_great
    m_law_great := PySem.W.mg_of X G a_law_great
    a_law_tokens := f_law_tokens
    d_law_tokens := _
    F_law_tokens := fun_mk (st := s_law_tokens) l_law_tokens c_law_tokens k_law_tokens
    m_law_tokens := PySem.W.mg_of X G a_law_tokens
    a_law_text_item := f_law_text_item
    d_law_text_item := _
    F_law_text_item := fun_mk (st := s_law_text_item) l_law_text_item c_law_text_item k_law_text_item
    m_law_text_item := PySem.W.mg_of X G a_law_text_item
    a_law_is_joined := f_law_is_joined
    d_law_is_joined := _
    F_law_is_joined := fun_mk (st := s_law_is_joined) l_law_is_joined c_law_is_joined k_law_is_joined
    m_law_is_joined := PySem.W.mg_of X G a_law_is_joined
    a_law_spaced := f_law_spaced
    d_law_spaced := _
    F_law_spaced := fun_mk (st := s_law_spaced) l_law_spaced c_law_spaced k_law_spaced
    m_law_spaced := PySem.W.mg_of X G a_law_spaced
    a_law_pattern := f_law_pattern
    d_law_pattern := _
    F_law_pattern := fun_mk (st := s_law_pattern) l_law_pattern c_law_pattern k_law_pattern
    m_law_pattern := PySem.W.mg_of X G a_law_pattern
    a_law_put := f_law_put
    d_law_put := _
    F_law_put := fun_mk (st := s_law_put) l_law_put c_law_put k_law_put
    m_law_put := PySem.W.mg_of X G a_law_put
    a_law_fits := f_law_fits
    d_law_fits := _
    F_law_fits := fun_mk (st := s_law_fits) l_law_fits c_law_fits k_law_fits
    m_law_fits := PySem.W.mg_of X G a_law_fits
    a_law_bad_token := f_law_bad_token
    d_law_bad_token := _
    F_law_bad_token := fun_mk (st := s_law_bad_token) l_law_bad_token c_law_bad_token k_law_bad_token
    m_law_bad_token := PySem.W.mg_of X G a_law_bad_token
    a_law_misfit := f_law_misfit
    d_law_misfit := _
    F_law_misfit := fun_mk (st := s_law_misfit) l_law_misfit c_law_misfit k_law_misfit
    m_law_misfit := PySem.W.mg_of X G a_law_misfit
    a_law_error_name := f_law_error_name
    d_law_error_name := _
    F_law_error_name := fun_mk (st := s_law_error_name) l_law_error_name c_law_error_name k_law_error_name
    m_law_error_name := PySem.W.mg_of X G a_law_error_name
    a_law_gap := f_law_gap
    d_law_gap := _
    F_law_gap := fun_mk (st := s_law_gap) l_law_gap c_law_gap k_law_gap
    m_law_gap := PySem.W.mg_of X G a_law_gap
    a_law_refused := f_law_refused
    d_law_refused := _
    F_law_refused := fun_mk (st := s_law_refused) l_law_refused c_law_refused k_law_refused
    m_law_refused := PySem.W.mg_of X G a_law_refused
    alaw := fa
    dlaw := _
    Flaw := fun_mk (st := slaw) llaw claw klaw
    mlaw := PySem.W.mg_of X G alaw }
  refine ⟨T.dlaw, fun s v => .of_eq rfl, fun base _ _ => ?_⟩
  let D : Dic K w mg := {
    c_EXPRESSION_PARTS := c_EXPRESSION_PARTS
    g_EXPRESSION_PARTS := PySem.W.mg_of X G g_EXPRESSION_PARTS
    e_EXPRESSION_PARTS := e_EXPRESSION_PARTS
    n_EXPRESSION_PARTS := n_EXPRESSION_PARTS
    D_EXPRESSION_PARTS := ⟨d_EXPRESSION_PARTS, l_EXPRESSION_PARTS, s_EXPRESSION_PARTS⟩
    y_EXPRESSION_PARTS := y_EXPRESSION_PARTS
    q_EXPRESSION_PARTS := by
      intro x ks h
      simp only [rows_EXPRESSION_PARTS, List.mem_cons, List.not_mem_nil, or_false, Prod.mk.injEq] at h
      rcases h with ⟨rfl, rfl⟩ | ⟨rfl, rfl⟩ | ⟨rfl, rfl⟩ | ⟨rfl, rfl⟩ | ⟨rfl, rfl⟩ | ⟨rfl, rfl⟩ | ⟨rfl, rfl⟩ | ⟨rfl, rfl⟩ | ⟨rfl, rfl⟩
      · exact ⟨_, q0_EXPRESSION_PARTS, k0_EXPRESSION_PARTS⟩
      · exact ⟨_, q1_EXPRESSION_PARTS, k1_EXPRESSION_PARTS⟩
      · exact ⟨_, q2_EXPRESSION_PARTS, k2_EXPRESSION_PARTS⟩
      · exact ⟨_, q3_EXPRESSION_PARTS, k3_EXPRESSION_PARTS⟩
      · exact ⟨_, q4_EXPRESSION_PARTS, k4_EXPRESSION_PARTS⟩
      · exact ⟨_, q5_EXPRESSION_PARTS, k5_EXPRESSION_PARTS⟩
      · exact ⟨_, q6_EXPRESSION_PARTS, k6_EXPRESSION_PARTS⟩
      · exact ⟨_, q7_EXPRESSION_PARTS, k7_EXPRESSION_PARTS⟩
      · exact ⟨_, q8_EXPRESSION_PARTS, k8_EXPRESSION_PARTS⟩
    c_CONDITION_PARTS := c_CONDITION_PARTS
    g_CONDITION_PARTS := PySem.W.mg_of X G g_CONDITION_PARTS
    e_CONDITION_PARTS := e_CONDITION_PARTS
    n_CONDITION_PARTS := n_CONDITION_PARTS
    D_CONDITION_PARTS := ⟨d_CONDITION_PARTS, l_CONDITION_PARTS, s_CONDITION_PARTS⟩
    y_CONDITION_PARTS := y_CONDITION_PARTS
    q_CONDITION_PARTS := by
      intro x ks h
      simp only [rows_CONDITION_PARTS, List.mem_cons, List.not_mem_nil, or_false, Prod.mk.injEq] at h
      rcases h with ⟨rfl, rfl⟩ | ⟨rfl, rfl⟩ | ⟨rfl, rfl⟩
      · exact ⟨_, q0_CONDITION_PARTS, k0_CONDITION_PARTS⟩
      · exact ⟨_, q1_CONDITION_PARTS, k1_CONDITION_PARTS⟩
      · exact ⟨_, q2_CONDITION_PARTS, k2_CONDITION_PARTS⟩ }
  let EX : Exs K mg := {
    c_ControlError := c_ControlError
    g_ControlError := PySem.W.mg_of X G g_ControlError
    c_InvalidExpression := c_InvalidExpression
    g_InvalidExpression := PySem.W.mg_of X G g_InvalidExpression
    c_InvalidPlant := c_InvalidPlant
    g_InvalidPlant := PySem.W.mg_of X G g_InvalidPlant
    c_InvalidArena := c_InvalidArena
    g_InvalidArena := PySem.W.mg_of X G g_InvalidArena
    c_InvalidGoal := c_InvalidGoal
    g_InvalidGoal := PySem.W.mg_of X G g_InvalidGoal
    c_BadText := c_BadText
    g_BadText := PySem.W.mg_of X G g_BadText
    c_NoPosition := c_NoPosition
    g_NoPosition := PySem.W.mg_of X G g_NoPosition
    c_Held := c_Held
    g_Held := PySem.W.mg_of X G g_Held
    c_NotHeld := c_NotHeld
    g_NotHeld := PySem.W.mg_of X G g_NotHeld
    c_BadReply := c_BadReply
    g_BadReply := PySem.W.mg_of X G g_BadReply
    c_Lost := c_Lost
    g_Lost := PySem.W.mg_of X G g_Lost
    oe := ⟨⟨_, _, _, _, _, _, _, _, _, _, _, _, _, _, _, ex_cls, ex_rv⟩, ex_sa, ex_b, ex_ty, ex_k⟩
    xf := ⟨ex_hg, ex_hk, ex_b, ex_hd⟩
    n_line := ex_n_line
    n_column := ex_n_column
    aI := fI
    dI := _
    FI := fun_mk (st := sI_BadText) ex_lI ex_cI ex_kI
    bI := (fun_mk (st := sI_BadText) ex_lI ex_cI ex_kI).binds fun _ _ _ _ _ _ us hl => match us, hl with | [_, _, _], _ => rfl
    iI := ex_iI
    tI := ex_tI
    k := ex_k
    b := ex_b
    sV := ex_sV
    bC := ex_bC
    ec := ⟨ex_hg, ex_hk, ex_b, ex_hd, ex_ha, ex_hn, ex_ht, ex_hm⟩
    i_ControlError := i_ControlError
    t_ControlError := t_ControlError
    s_ControlError := s_ControlError
    i_InvalidExpression := i_InvalidExpression
    t_InvalidExpression := t_InvalidExpression
    s_InvalidExpression := s_InvalidExpression
    i_InvalidPlant := i_InvalidPlant
    t_InvalidPlant := t_InvalidPlant
    s_InvalidPlant := s_InvalidPlant
    i_InvalidArena := i_InvalidArena
    t_InvalidArena := t_InvalidArena
    s_InvalidArena := s_InvalidArena
    i_InvalidGoal := i_InvalidGoal
    t_InvalidGoal := t_InvalidGoal
    s_InvalidGoal := s_InvalidGoal
    i_BadText := i_BadText
    t_BadText := t_BadText
    s_BadText := s_BadText
    i_NoPosition := i_NoPosition
    t_NoPosition := t_NoPosition
    s_NoPosition := s_NoPosition
    i_Held := i_Held
    t_Held := t_Held
    s_Held := s_Held
    i_NotHeld := i_NotHeld
    t_NotHeld := t_NotHeld
    s_NotHeld := s_NotHeld
    i_BadReply := i_BadReply
    t_BadReply := t_BadReply
    s_BadReply := s_BadReply
    i_Lost := i_Lost
    t_Lost := t_Lost
    s_Lost := s_Lost }
  exact ok_law T D EX
end NL
open PySem PySem.W PyProof.Rows
set_option maxRecDepth 100000 in
set_option maxHeartbeats 0 in
theorem PySem.Challenge.cw_neverleaves_k08_places_of_errors_holds : PySem.Challenge.rw_neverleaves_k08_places_of_errors.Holds := by
  w_on; o_law; k_head; (case hw => w_witness2)
  k_fill
  refine L2.walk_of (l := PySem.Challenge.rw_neverleaves_k08_places_of_errors) (n := 63) (k := 50) (x := "script") (CX := fun _ => L2.CX0) (sp := fun w => NL.spLaw _) rfl (by decide) rfl ⟨rfl, by decide, by decide⟩ (fun w h Y => PySem.W.kIn_of Y) ?F (fun _ _ a ns hl _ hS => ⟨a, ns, rfl, hS, hl, fun _ => rfl⟩) (fun _ _ _ _ _ h => h)
  case F =>
    intro w mg fa h KX G hmg
    refine' NL.all_mk KX G hmg ?arun_end ?lrun_end ?crun_end ?krun_end ?ais_name ?lis_name ?cis_name ?kis_name ?ais_integer ?lis_integer ?cis_integer ?kis_integer ?atokens_of ?ltokens_of ?ctokens_of ?ktokens_of ?a_piece_end ?l_piece_end ?c_piece_end ?k_piece_end ?aread_whole ?lread_whole ?cread_whole ?kread_whole ?a_pass_token ?l_pass_token ?c_pass_token ?k_pass_token ?a_read_part ?l_read_part ?c_read_part ?k_read_part ?a_read_divisor ?l_read_divisor ?c_read_divisor ?k_read_divisor ?a_read_expression ?l_read_expression ?c_read_expression ?k_read_expression ?a_read_condition ?l_read_condition ?c_read_condition ?k_read_condition ?a_read_parts ?l_read_parts ?c_read_parts ?k_read_parts ?a_read_conditions ?l_read_conditions ?c_read_conditions ?k_read_conditions ?aread_expression ?lread_expression ?cread_expression ?kread_expression ?aread_condition ?lread_condition ?cread_condition ?kread_condition ?a_law_draws ?l_law_draws ?c_law_draws ?k_law_draws ?a_law_take ?l_law_take ?c_law_take ?k_law_take ?a_law_cell ?l_law_cell ?c_law_cell ?k_law_cell ?a_law_word ?l_law_word ?c_law_word ?k_law_word ?a_law_some_word ?l_law_some_word ?c_law_some_word ?k_law_some_word ?a_law_reserved ?l_law_reserved ?c_law_reserved ?k_law_reserved ?a_law_name ?l_law_name ?c_law_name ?k_law_name ?a_law_names ?l_law_names ?c_law_names ?k_law_names ?a_law_is_integer ?l_law_is_integer ?c_law_is_integer ?k_law_is_integer ?a_law_number ?l_law_number ?c_law_number ?k_law_number ?a_law_leaf ?l_law_leaf ?c_law_leaf ?k_law_leaf ?a_law_expression ?l_law_expression ?c_law_expression ?k_law_expression ?a_law_test ?l_law_test ?c_law_test ?k_law_test ?a_law_inner ?l_law_inner ?c_law_inner ?k_law_inner ?a_law_depth ?l_law_depth ?c_law_depth ?k_law_depth ?a_law_is_test ?l_law_is_test ?c_law_is_test ?k_law_is_test ?a_law_around ?l_law_around ?c_law_around ?k_law_around ?a_law_many ?l_law_many ?c_law_many ?k_law_many ?a_law_great ?l_law_great ?c_law_great ?k_law_great ?a_law_tokens ?l_law_tokens ?c_law_tokens ?k_law_tokens ?a_law_text_item ?l_law_text_item ?c_law_text_item ?k_law_text_item ?a_law_is_joined ?l_law_is_joined ?c_law_is_joined ?k_law_is_joined ?a_law_spaced ?l_law_spaced ?c_law_spaced ?k_law_spaced ?a_law_pattern ?l_law_pattern ?c_law_pattern ?k_law_pattern ?a_law_put ?l_law_put ?c_law_put ?k_law_put ?a_law_fits ?l_law_fits ?c_law_fits ?k_law_fits ?a_law_bad_token ?l_law_bad_token ?c_law_bad_token ?k_law_bad_token ?a_law_misfit ?l_law_misfit ?c_law_misfit ?k_law_misfit ?a_law_error_name ?l_law_error_name ?c_law_error_name ?k_law_error_name ?a_law_gap ?l_law_gap ?c_law_gap ?k_law_gap ?a_law_refused ?l_law_refused ?c_law_refused ?k_law_refused ?alaw ?llaw ?claw ?klaw ?g_LETTERS ?r_LETTERS ?g_DIGITS ?r_DIGITS ?g_MOST_DIGITS ?r_MOST_DIGITS ?g_WORDS ?k_WORDS ?g_MOST_DEPTH ?r_MOST_DEPTH ?g_EXPRESSION_PARTS ?d_EXPRESSION_PARTS ?l_EXPRESSION_PARTS ?s_EXPRESSION_PARTS ?y_EXPRESSION_PARTS ?q0_EXPRESSION_PARTS ?k0_EXPRESSION_PARTS ?q1_EXPRESSION_PARTS ?k1_EXPRESSION_PARTS ?q2_EXPRESSION_PARTS ?k2_EXPRESSION_PARTS ?q3_EXPRESSION_PARTS ?k3_EXPRESSION_PARTS ?q4_EXPRESSION_PARTS ?k4_EXPRESSION_PARTS ?q5_EXPRESSION_PARTS ?k5_EXPRESSION_PARTS ?q6_EXPRESSION_PARTS ?k6_EXPRESSION_PARTS ?q7_EXPRESSION_PARTS ?k7_EXPRESSION_PARTS ?q8_EXPRESSION_PARTS ?k8_EXPRESSION_PARTS ?g_CONDITION_PARTS ?d_CONDITION_PARTS ?l_CONDITION_PARTS ?s_CONDITION_PARTS ?y_CONDITION_PARTS ?q0_CONDITION_PARTS ?k0_CONDITION_PARTS ?q1_CONDITION_PARTS ?k1_CONDITION_PARTS ?q2_CONDITION_PARTS ?k2_CONDITION_PARTS ?g_ControlError ?g_InvalidExpression ?g_InvalidPlant ?g_InvalidArena ?g_InvalidGoal ?g_BadText ?g_NoPosition ?g_Held ?g_NotHeld ?g_BadReply ?g_Lost ?ex_cls ?ex_rv ?ex_sa ?ex_ty ?ex_n_line ?ex_n_column ?ex_iI ?ex_tI ?ex_lI ?ex_cI ?ex_kI ?ex_k ?ex_b ?ex_sV ?ex_bC ?ex_hg ?ex_hk ?ex_hd ?ex_ha ?ex_hn ?ex_ht ?ex_hm ?i_ControlError ?t_ControlError ?s_ControlError ?i_InvalidExpression ?t_InvalidExpression ?s_InvalidExpression ?i_InvalidPlant ?t_InvalidPlant ?s_InvalidPlant ?i_InvalidArena ?t_InvalidArena ?s_InvalidArena ?i_InvalidGoal ?t_InvalidGoal ?s_InvalidGoal ?i_BadText ?t_BadText ?s_BadText ?i_NoPosition ?t_NoPosition ?s_NoPosition ?i_Held ?t_Held ?s_Held ?i_NotHeld ?t_NotHeld ?s_NotHeld ?i_BadReply ?t_BadReply ?s_BadReply ?i_Lost ?t_Lost ?s_Lost ?z_ValueError ?z_abs ?z_bool ?z_int ?z_isinstance ?z_len ?z_list ?z_max ?z_range ?z_str ?z_tuple
    (case arun_end => k_is); (case lrun_end => k_is); (case crun_end => k_is); (case krun_end => k_is)
    (case ais_name => k_is); (case lis_name => k_is); (case cis_name => k_is); (case kis_name => k_is)
    (case ais_integer => k_is); (case lis_integer => k_is); (case cis_integer => k_is); (case kis_integer => k_is)
    (case atokens_of => k_is); (case ltokens_of => k_is); (case ctokens_of => k_is); (case ktokens_of => k_is)
    (case a_piece_end => k_is); (case l_piece_end => k_is); (case c_piece_end => k_is); (case k_piece_end => k_is)
    (case aread_whole => k_is); (case lread_whole => k_is); (case cread_whole => k_is); (case kread_whole => k_is)
    (case a_pass_token => k_is); (case l_pass_token => k_is); (case c_pass_token => k_is); (case k_pass_token => k_is)
    (case a_read_part => k_is); (case l_read_part => k_is); (case c_read_part => k_is); (case k_read_part => k_is)
    (case a_read_divisor => k_is); (case l_read_divisor => k_is); (case c_read_divisor => k_is); (case k_read_divisor => k_is)
    (case a_read_expression => k_is); (case l_read_expression => k_is); (case c_read_expression => k_is); (case k_read_expression => k_is)
    (case a_read_condition => k_is); (case l_read_condition => k_is); (case c_read_condition => k_is); (case k_read_condition => k_is)
    (case a_read_parts => k_is); (case l_read_parts => k_is); (case c_read_parts => k_is); (case k_read_parts => k_is)
    (case a_read_conditions => k_is); (case l_read_conditions => k_is); (case c_read_conditions => k_is); (case k_read_conditions => k_is)
    (case aread_expression => k_is); (case lread_expression => k_is); (case cread_expression => k_is); (case kread_expression => k_is)
    (case aread_condition => k_is); (case lread_condition => k_is); (case cread_condition => k_is); (case kread_condition => k_is)
    (case a_law_draws => k_is); (case l_law_draws => k_is); (case c_law_draws => k_is); (case k_law_draws => k_is)
    (case a_law_take => k_is); (case l_law_take => k_is); (case c_law_take => k_is); (case k_law_take => k_is)
    (case a_law_cell => k_is); (case l_law_cell => k_is); (case c_law_cell => k_is); (case k_law_cell => k_is)
    (case a_law_word => k_is); (case l_law_word => k_is); (case c_law_word => k_is); (case k_law_word => k_is)
    (case a_law_some_word => k_is); (case l_law_some_word => k_is); (case c_law_some_word => k_is); (case k_law_some_word => k_is)
    (case a_law_reserved => k_is); (case l_law_reserved => k_is); (case c_law_reserved => k_is); (case k_law_reserved => k_is)
    (case a_law_name => k_is); (case l_law_name => k_is); (case c_law_name => k_is); (case k_law_name => k_is)
    (case a_law_names => k_is); (case l_law_names => k_is); (case c_law_names => k_is); (case k_law_names => k_is)
    (case a_law_is_integer => k_is); (case l_law_is_integer => k_is); (case c_law_is_integer => k_is); (case k_law_is_integer => k_is)
    (case a_law_number => k_is); (case l_law_number => k_is); (case c_law_number => k_is); (case k_law_number => k_is)
    (case a_law_leaf => k_is); (case l_law_leaf => k_is); (case c_law_leaf => k_is); (case k_law_leaf => k_is)
    (case a_law_expression => k_is); (case l_law_expression => k_is); (case c_law_expression => k_is); (case k_law_expression => k_is)
    (case a_law_test => k_is); (case l_law_test => k_is); (case c_law_test => k_is); (case k_law_test => k_is)
    (case a_law_inner => k_is); (case l_law_inner => k_is); (case c_law_inner => k_is); (case k_law_inner => k_is)
    (case a_law_depth => k_is); (case l_law_depth => k_is); (case c_law_depth => k_is); (case k_law_depth => k_is)
    (case a_law_is_test => k_is); (case l_law_is_test => k_is); (case c_law_is_test => k_is); (case k_law_is_test => k_is)
    (case a_law_around => k_is); (case l_law_around => k_is); (case c_law_around => k_is); (case k_law_around => k_is)
    (case a_law_many => k_is); (case l_law_many => k_is); (case c_law_many => k_is); (case k_law_many => k_is)
    (case a_law_great => k_is); (case l_law_great => k_is); (case c_law_great => k_is); (case k_law_great => k_is)
    (case a_law_tokens => k_is); (case l_law_tokens => k_is); (case c_law_tokens => k_is); (case k_law_tokens => k_is)
    (case a_law_text_item => k_is); (case l_law_text_item => k_is); (case c_law_text_item => k_is); (case k_law_text_item => k_is)
    (case a_law_is_joined => k_is); (case l_law_is_joined => k_is); (case c_law_is_joined => k_is); (case k_law_is_joined => k_is)
    (case a_law_spaced => k_is); (case l_law_spaced => k_is); (case c_law_spaced => k_is); (case k_law_spaced => k_is)
    (case a_law_pattern => k_is); (case l_law_pattern => k_is); (case c_law_pattern => k_is); (case k_law_pattern => k_is)
    (case a_law_put => k_is); (case l_law_put => k_is); (case c_law_put => k_is); (case k_law_put => k_is)
    (case a_law_fits => k_is); (case l_law_fits => k_is); (case c_law_fits => k_is); (case k_law_fits => k_is)
    (case a_law_bad_token => k_is); (case l_law_bad_token => k_is); (case c_law_bad_token => k_is); (case k_law_bad_token => k_is)
    (case a_law_misfit => k_is); (case l_law_misfit => k_is); (case c_law_misfit => k_is); (case k_law_misfit => k_is)
    (case a_law_error_name => k_is); (case l_law_error_name => k_is); (case c_law_error_name => k_is); (case k_law_error_name => k_is)
    (case a_law_gap => k_is); (case l_law_gap => k_is); (case c_law_gap => k_is); (case k_law_gap => k_is)
    (case a_law_refused => k_is); (case l_law_refused => k_is); (case c_law_refused => k_is); (case k_law_refused => k_is)
    (case alaw => k_is); (case llaw => k_is); (case claw => k_is); (case klaw => k_is)
    (case g_LETTERS => k_is); (case r_LETTERS => exact ⟨_, rfl⟩)
    (case g_DIGITS => k_is); (case r_DIGITS => exact ⟨_, rfl⟩)
    (case g_MOST_DIGITS => k_is); (case r_MOST_DIGITS => exact ⟨_, rfl⟩)
    (case g_WORDS => k_is); (case k_WORDS => (refine' NL.kt_mk ?h1 ?h2 ?h3 ?h4 ?h5; (case h1 => k_is); (case h2 => rfl); (case h3 => rfl); (case h4 => decide); (case h5 => repeat (first | exact .nil | refine .cons ⟨_, rfl⟩ ?_))))
    (case g_MOST_DEPTH => k_is); (case r_MOST_DEPTH => exact ⟨_, rfl⟩)
    (case g_EXPRESSION_PARTS => k_is); (case d_EXPRESSION_PARTS => k_is); (case l_EXPRESSION_PARTS => repeat (first | exact trivial | refine ⟨⟨_, _, rfl, rfl⟩, ?_⟩)); (case s_EXPRESSION_PARTS => decide); (case y_EXPRESSION_PARTS => rfl)
    (case q0_EXPRESSION_PARTS => k_is); (case k0_EXPRESSION_PARTS => (refine' NL.kt_mk ?h1 ?h2 ?h3 ?h4 ?h5; (case h1 => k_is); (case h2 => rfl); (case h3 => rfl); (case h4 => decide); (case h5 => repeat (first | exact .nil | refine .cons ⟨_, rfl⟩ ?_))))
    (case q1_EXPRESSION_PARTS => k_is); (case k1_EXPRESSION_PARTS => (refine' NL.kt_mk ?h1 ?h2 ?h3 ?h4 ?h5; (case h1 => k_is); (case h2 => rfl); (case h3 => rfl); (case h4 => decide); (case h5 => repeat (first | exact .nil | refine .cons ⟨_, rfl⟩ ?_))))
    (case q2_EXPRESSION_PARTS => k_is); (case k2_EXPRESSION_PARTS => (refine' NL.kt_mk ?h1 ?h2 ?h3 ?h4 ?h5; (case h1 => k_is); (case h2 => rfl); (case h3 => rfl); (case h4 => decide); (case h5 => repeat (first | exact .nil | refine .cons ⟨_, rfl⟩ ?_))))
    (case q3_EXPRESSION_PARTS => k_is); (case k3_EXPRESSION_PARTS => (refine' NL.kt_mk ?h1 ?h2 ?h3 ?h4 ?h5; (case h1 => k_is); (case h2 => rfl); (case h3 => rfl); (case h4 => decide); (case h5 => repeat (first | exact .nil | refine .cons ⟨_, rfl⟩ ?_))))
    (case q4_EXPRESSION_PARTS => k_is); (case k4_EXPRESSION_PARTS => (refine' NL.kt_mk ?h1 ?h2 ?h3 ?h4 ?h5; (case h1 => k_is); (case h2 => rfl); (case h3 => rfl); (case h4 => decide); (case h5 => repeat (first | exact .nil | refine .cons ⟨_, rfl⟩ ?_))))
    (case q5_EXPRESSION_PARTS => k_is); (case k5_EXPRESSION_PARTS => (refine' NL.kt_mk ?h1 ?h2 ?h3 ?h4 ?h5; (case h1 => k_is); (case h2 => rfl); (case h3 => rfl); (case h4 => decide); (case h5 => repeat (first | exact .nil | refine .cons ⟨_, rfl⟩ ?_))))
    (case q6_EXPRESSION_PARTS => k_is); (case k6_EXPRESSION_PARTS => (refine' NL.kt_mk ?h1 ?h2 ?h3 ?h4 ?h5; (case h1 => k_is); (case h2 => rfl); (case h3 => rfl); (case h4 => decide); (case h5 => repeat (first | exact .nil | refine .cons ⟨_, rfl⟩ ?_))))
    (case q7_EXPRESSION_PARTS => k_is); (case k7_EXPRESSION_PARTS => (refine' NL.kt_mk ?h1 ?h2 ?h3 ?h4 ?h5; (case h1 => k_is); (case h2 => rfl); (case h3 => rfl); (case h4 => decide); (case h5 => repeat (first | exact .nil | refine .cons ⟨_, rfl⟩ ?_))))
    (case q8_EXPRESSION_PARTS => k_is); (case k8_EXPRESSION_PARTS => (refine' NL.kt_mk ?h1 ?h2 ?h3 ?h4 ?h5; (case h1 => k_is); (case h2 => rfl); (case h3 => rfl); (case h4 => decide); (case h5 => repeat (first | exact .nil | refine .cons ⟨_, rfl⟩ ?_))))
    (case g_CONDITION_PARTS => k_is); (case d_CONDITION_PARTS => k_is); (case l_CONDITION_PARTS => repeat (first | exact trivial | refine ⟨⟨_, _, rfl, rfl⟩, ?_⟩)); (case s_CONDITION_PARTS => decide); (case y_CONDITION_PARTS => rfl)
    (case q0_CONDITION_PARTS => k_is); (case k0_CONDITION_PARTS => (refine' NL.kt_mk ?h1 ?h2 ?h3 ?h4 ?h5; (case h1 => k_is); (case h2 => rfl); (case h3 => rfl); (case h4 => decide); (case h5 => repeat (first | exact .nil | refine .cons ⟨_, rfl⟩ ?_))))
    (case q1_CONDITION_PARTS => k_is); (case k1_CONDITION_PARTS => (refine' NL.kt_mk ?h1 ?h2 ?h3 ?h4 ?h5; (case h1 => k_is); (case h2 => rfl); (case h3 => rfl); (case h4 => decide); (case h5 => repeat (first | exact .nil | refine .cons ⟨_, rfl⟩ ?_))))
    (case q2_CONDITION_PARTS => k_is); (case k2_CONDITION_PARTS => (refine' NL.kt_mk ?h1 ?h2 ?h3 ?h4 ?h5; (case h1 => k_is); (case h2 => rfl); (case h3 => rfl); (case h4 => decide); (case h5 => repeat (first | exact .nil | refine .cons ⟨_, rfl⟩ ?_))))
    (case g_ControlError => k_is)
    (case g_InvalidExpression => k_is)
    (case g_InvalidPlant => k_is)
    (case g_InvalidArena => k_is)
    (case g_InvalidGoal => k_is)
    (case g_BadText => k_is)
    (case g_NoPosition => k_is)
    (case g_Held => k_is)
    (case g_NotHeld => k_is)
    (case g_BadReply => k_is)
    (case g_Lost => k_is)
    (case i_ControlError => k_is); (case t_ControlError => k_is); (case s_ControlError => first | rfl | k_is)
    (case i_InvalidExpression => k_is); (case t_InvalidExpression => k_is); (case s_InvalidExpression => first | rfl | k_is)
    (case i_InvalidPlant => k_is); (case t_InvalidPlant => k_is); (case s_InvalidPlant => first | rfl | k_is)
    (case i_InvalidArena => k_is); (case t_InvalidArena => k_is); (case s_InvalidArena => first | rfl | k_is)
    (case i_InvalidGoal => k_is); (case t_InvalidGoal => k_is); (case s_InvalidGoal => first | rfl | k_is)
    (case i_BadText => k_is); (case t_BadText => k_is); (case s_BadText => first | rfl | k_is)
    (case i_NoPosition => k_is); (case t_NoPosition => k_is); (case s_NoPosition => first | rfl | k_is)
    (case i_Held => k_is); (case t_Held => k_is); (case s_Held => first | rfl | k_is)
    (case i_NotHeld => k_is); (case t_NotHeld => k_is); (case s_NotHeld => first | rfl | k_is)
    (case i_BadReply => k_is); (case t_BadReply => k_is); (case s_BadReply => first | rfl | k_is)
    (case i_Lost => k_is); (case t_Lost => k_is); (case s_Lost => first | rfl | k_is)
    (case ex_cls => k_is); (case ex_rv => decide +kernel); (case ex_sa => k_is); (case ex_ty => k_is); (case ex_iI => k_is); (case ex_tI => k_is); (case ex_lI => k_is); (case ex_cI => k_is); (case ex_kI => k_is); (case ex_n_line => k_is); (case ex_n_column => k_is)
    (case ex_k => k_is); (case ex_b => k_is); (case ex_sV => k_is); (case ex_bC => k_is); (case ex_hg => k_is); (case ex_hk => k_is); (case ex_hd => k_is); (case ex_ha => k_is); (case ex_hn => first | rfl | decide +kernel | k_is); (case ex_ht => first | rfl | decide +kernel | k_is); (case ex_hm => k_is)
    (case z_ValueError => k_is)
    (case z_abs => k_is)
    (case z_bool => k_is)
    (case z_int => k_is)
    (case z_isinstance => k_is)
    (case z_len => k_is)
    (case z_list => k_is)
    (case z_max => k_is)
    (case z_range => k_is)
    (case z_str => k_is)
    (case z_tuple => k_is)
