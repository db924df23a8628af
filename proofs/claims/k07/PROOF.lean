import PyProof.Rows.All
import Wide.All
import OpenK.AllK
import Wide.FinOn
import HandS.ForExc
import HandS.ForMost
import HandS.TupAny
import HandS.IsInst
import HandS.Codes
import HandS.FStr
import HandS.Zip
import HandS.More
import HandS.StrMore
import HandS.Text
import KE.KxIndex
import PySem.Challenge.RW_neverleaves_k07_expressions_read_back
set_option Elab.async false
set_option linter.all false
set_option maxRecDepth 100000

namespace NL
open PySem PySem.Spec PyProof.Rows L2
def topS (i : Nat) : Stmt := PySem.Challenge.pw_neverleaves_k07_expressions_read_back.main.body.getD i (.Pass ⟨0, 0, 0, 0⟩)
abbrev srun_end : Stmt := topS 8
abbrev Nrun_end : List Str := ["text", "at", "characters"]
abbrev Prun_end : List Str := ["text", "at", "characters"]
theorem scrun_end : FnScope Nrun_end Prun_end (defScope srun_end) := ⟨rfl, rfl, rfl, by decide +kernel, rfl, by decide +kernel, by decide +kernel⟩
abbrev sis_name : Stmt := topS 9
abbrev Nis_name : List Str := ["word"]
abbrev Pis_name : List Str := ["word"]
theorem scis_name : FnScope Nis_name Pis_name (defScope sis_name) := ⟨rfl, rfl, rfl, by decide +kernel, rfl, by decide +kernel, by decide +kernel⟩
abbrev sis_integer : Stmt := topS 10
abbrev Nis_integer : List Str := ["word", "digits"]
abbrev Pis_integer : List Str := ["word"]
theorem scis_integer : FnScope Nis_integer Pis_integer (defScope sis_integer) := ⟨rfl, rfl, rfl, by decide +kernel, rfl, by decide +kernel, by decide +kernel⟩
abbrev sparts_in : Stmt := topS 13
abbrev Nparts_in : List Str := ["whole", "word"]
abbrev Pparts_in : List Str := ["whole"]
theorem scparts_in : FnScope Nparts_in Pparts_in (defScope sparts_in) := ⟨rfl, rfl, rfl, by decide +kernel, rfl, by decide +kernel, by decide +kernel⟩
abbrev stokens_of : Stmt := topS 15
abbrev Ntokens_of : List Str := ["text", "tokens", "at", "end"]
abbrev Ptokens_of : List Str := ["text"]
theorem sctokens_of : FnScope Ntokens_of Ptokens_of (defScope stokens_of) := ⟨rfl, rfl, rfl, by decide +kernel, rfl, by decide +kernel, by decide +kernel⟩
abbrev s_piece_end : Stmt := topS 16
abbrev N_piece_end : List Str := ["text", "at"]
abbrev P_piece_end : List Str := ["text", "at"]
theorem sc_piece_end : FnScope N_piece_end P_piece_end (defScope s_piece_end) := ⟨rfl, rfl, rfl, by decide +kernel, rfl, by decide +kernel, by decide +kernel⟩
abbrev sread_whole : Stmt := topS 20
abbrev Nread_whole : List Str := ["text", "kind", "tokens", "whole", "at"]
abbrev Pread_whole : List Str := ["text", "kind"]
theorem scread_whole : FnScope Nread_whole Pread_whole (defScope sread_whole) := ⟨rfl, rfl, rfl, by decide +kernel, rfl, by decide +kernel, by decide +kernel⟩
abbrev s_pass_token : Stmt := topS 21
abbrev N_pass_token : List Str := ["tokens", "at", "due", "word", "column"]
abbrev P_pass_token : List Str := ["tokens", "at", "due"]
theorem sc_pass_token : FnScope N_pass_token P_pass_token (defScope s_pass_token) := ⟨rfl, rfl, rfl, by decide +kernel, rfl, by decide +kernel, by decide +kernel⟩
abbrev s_read_part : Stmt := topS 22
abbrev N_read_part : List Str := ["tokens", "at", "kind", "depth"]
abbrev P_read_part : List Str := ["tokens", "at", "kind", "depth"]
theorem sc_read_part : FnScope N_read_part P_read_part (defScope s_read_part) := ⟨rfl, rfl, rfl, by decide +kernel, rfl, by decide +kernel, by decide +kernel⟩
abbrev s_read_divisor : Stmt := topS 23
abbrev N_read_divisor : List Str := ["tokens", "at", "word", "column"]
abbrev P_read_divisor : List Str := ["tokens", "at"]
theorem sc_read_divisor : FnScope N_read_divisor P_read_divisor (defScope s_read_divisor) := ⟨rfl, rfl, rfl, by decide +kernel, rfl, by decide +kernel, by decide +kernel⟩
abbrev s_read_expression : Stmt := topS 24
abbrev N_read_expression : List Str := ["tokens", "at", "depth", "word", "column", "parts", "end"]
abbrev P_read_expression : List Str := ["tokens", "at", "depth"]
theorem sc_read_expression : FnScope N_read_expression P_read_expression (defScope s_read_expression) := ⟨rfl, rfl, rfl, by decide +kernel, rfl, by decide +kernel, by decide +kernel⟩
abbrev s_read_condition : Stmt := topS 25
abbrev N_read_condition : List Str := ["tokens", "at", "depth", "word", "column", "conditions", "end", "parts"]
abbrev P_read_condition : List Str := ["tokens", "at", "depth"]
theorem sc_read_condition : FnScope N_read_condition P_read_condition (defScope s_read_condition) := ⟨rfl, rfl, rfl, by decide +kernel, rfl, by decide +kernel, by decide +kernel⟩
abbrev s_read_parts : Stmt := topS 26
abbrev N_read_parts : List Str := ["tokens", "at", "kinds", "depth", "parts", "before", "kind", "part"]
abbrev P_read_parts : List Str := ["tokens", "at", "kinds", "depth"]
theorem sc_read_parts : FnScope N_read_parts P_read_parts (defScope s_read_parts) := ⟨rfl, rfl, rfl, by decide +kernel, rfl, by decide +kernel, by decide +kernel⟩
abbrev s_read_conditions : Stmt := topS 27
abbrev N_read_conditions : List Str := ["tokens", "at", "depth", "first", "conditions", "condition"]
abbrev P_read_conditions : List Str := ["tokens", "at", "depth"]
theorem sc_read_conditions : FnScope N_read_conditions P_read_conditions (defScope s_read_conditions) := ⟨rfl, rfl, rfl, by decide +kernel, rfl, by decide +kernel, by decide +kernel⟩
abbrev swrite_expression : Stmt := topS 29
abbrev Nwrite_expression : List Str := ["expression"]
abbrev Pwrite_expression : List Str := ["expression"]
theorem scwrite_expression : FnScope Nwrite_expression Pwrite_expression (defScope swrite_expression) := ⟨rfl, rfl, rfl, by decide +kernel, rfl, by decide +kernel, by decide +kernel⟩
abbrev swrite_condition : Stmt := topS 30
abbrev Nwrite_condition : List Str := ["condition"]
abbrev Pwrite_condition : List Str := ["condition"]
theorem scwrite_condition : FnScope Nwrite_condition Pwrite_condition (defScope swrite_condition) := ⟨rfl, rfl, rfl, by decide +kernel, rfl, by decide +kernel, by decide +kernel⟩
abbrev s_written : Stmt := topS 31
abbrev N_written : List Str := ["whole", "word", "parts", "part"]
abbrev P_written : List Str := ["whole"]
theorem sc_written : FnScope N_written P_written (defScope s_written) := ⟨rfl, rfl, rfl, by decide +kernel, rfl, by decide +kernel, by decide +kernel⟩
abbrev sread_expression : Stmt := topS 32
abbrev Nread_expression : List Str := ["text"]
abbrev Pread_expression : List Str := ["text"]
theorem scread_expression : FnScope Nread_expression Pread_expression (defScope sread_expression) := ⟨rfl, rfl, rfl, by decide +kernel, rfl, by decide +kernel, by decide +kernel⟩
abbrev sread_condition : Stmt := topS 33
abbrev Nread_condition : List Str := ["text"]
abbrev Pread_condition : List Str := ["text"]
theorem scread_condition : FnScope Nread_condition Pread_condition (defScope sread_condition) := ⟨rfl, rfl, rfl, by decide +kernel, rfl, by decide +kernel, by decide +kernel⟩
abbrev s_law_draws : Stmt := topS 35
abbrev N_law_draws : List Str := ["script", "many", "cells", "cell", "rest", "draws", "k", "at", "once"]
abbrev P_law_draws : List Str := ["script", "many"]
theorem sc_law_draws : FnScope N_law_draws P_law_draws (defScope s_law_draws) := ⟨rfl, rfl, rfl, by decide +kernel, rfl, by decide +kernel, by decide +kernel⟩
abbrev s_law_take : Stmt := topS 36
abbrev N_law_take : List Str := ["draws", "many"]
abbrev P_law_take : List Str := ["draws", "many"]
theorem sc_law_take : FnScope N_law_take P_law_take (defScope s_law_take) := ⟨rfl, rfl, rfl, by decide +kernel, rfl, by decide +kernel, by decide +kernel⟩
abbrev s_law_cell : Stmt := topS 37
abbrev N_law_cell : List Str := ["script", "draws"]
abbrev P_law_cell : List Str := ["script", "draws"]
theorem sc_law_cell : FnScope N_law_cell P_law_cell (defScope s_law_cell) := ⟨rfl, rfl, rfl, by decide +kernel, rfl, by decide +kernel, by decide +kernel⟩
abbrev s_law_word : Stmt := topS 38
abbrev N_law_word : List Str := ["number", "word", "k"]
abbrev P_law_word : List Str := ["number"]
theorem sc_law_word : FnScope N_law_word P_law_word (defScope s_law_word) := ⟨rfl, rfl, rfl, by decide +kernel, rfl, by decide +kernel, by decide +kernel⟩
abbrev s_law_some_word : Stmt := topS 39
abbrev N_law_some_word : List Str := ["draws", "number", "great"]
abbrev P_law_some_word : List Str := ["draws"]
theorem sc_law_some_word : FnScope N_law_some_word P_law_some_word (defScope s_law_some_word) := ⟨rfl, rfl, rfl, by decide +kernel, rfl, by decide +kernel, by decide +kernel⟩
abbrev s_law_reserved : Stmt := topS 40
abbrev N_law_reserved : List Str := ["first"]
abbrev P_law_reserved : List Str := []
theorem sc_law_reserved : FnScope N_law_reserved P_law_reserved (defScope s_law_reserved) := ⟨rfl, rfl, rfl, by decide +kernel, rfl, by decide +kernel, by decide +kernel⟩
abbrev s_law_name : Stmt := topS 41
abbrev N_law_name : List Str := ["draws", "known", "name", "near"]
abbrev P_law_name : List Str := ["draws"]
theorem sc_law_name : FnScope N_law_name P_law_name (defScope s_law_name) := ⟨rfl, rfl, rfl, by decide +kernel, rfl, by decide +kernel, by decide +kernel⟩
abbrev s_law_names : Stmt := topS 42
abbrev N_law_names : List Str := ["draws", "many", "names", "k", "name"]
abbrev P_law_names : List Str := ["draws", "many"]
theorem sc_law_names : FnScope N_law_names P_law_names (defScope s_law_names) := ⟨rfl, rfl, rfl, by decide +kernel, rfl, by decide +kernel, by decide +kernel⟩
abbrev s_law_same : Stmt := topS 43
abbrev N_law_same : List Str := ["actual", "due", "k"]
abbrev P_law_same : List Str := ["actual", "due"]
theorem sc_law_same : FnScope N_law_same P_law_same (defScope s_law_same) := ⟨rfl, rfl, rfl, by decide +kernel, rfl, by decide +kernel, by decide +kernel⟩
abbrev s_law_number : Stmt := topS 44
abbrev N_law_number : List Str := ["draws", "cell"]
abbrev P_law_number : List Str := ["draws", "cell"]
theorem sc_law_number : FnScope N_law_number P_law_number (defScope s_law_number) := ⟨rfl, rfl, rfl, by decide +kernel, rfl, by decide +kernel, by decide +kernel⟩
abbrev s_law_leaf : Stmt := topS 45
abbrev N_law_leaf : List Str := ["draws", "names", "cell"]
abbrev P_law_leaf : List Str := ["draws", "names", "cell"]
theorem sc_law_leaf : FnScope N_law_leaf P_law_leaf (defScope s_law_leaf) := ⟨rfl, rfl, rfl, by decide +kernel, rfl, by decide +kernel, by decide +kernel⟩
abbrev s_law_expression : Stmt := topS 46
abbrev N_law_expression : List Str := ["draws", "names", "cell", "depth", "kind", "one", "two"]
abbrev P_law_expression : List Str := ["draws", "names", "cell", "depth"]
theorem sc_law_expression : FnScope N_law_expression P_law_expression (defScope s_law_expression) := ⟨rfl, rfl, rfl, by decide +kernel, rfl, by decide +kernel, by decide +kernel⟩
abbrev s_law_test : Stmt := topS 47
abbrev N_law_test : List Str := ["draws", "names", "cell", "depth", "kind", "one", "many", "k"]
abbrev P_law_test : List Str := ["draws", "names", "cell", "depth"]
theorem sc_law_test : FnScope N_law_test P_law_test (defScope s_law_test) := ⟨rfl, rfl, rfl, by decide +kernel, rfl, by decide +kernel, by decide +kernel⟩
abbrev s_law_inner : Stmt := topS 48
abbrev N_law_inner : List Str := ["item"]
abbrev P_law_inner : List Str := ["item"]
theorem sc_law_inner : FnScope N_law_inner P_law_inner (defScope s_law_inner) := ⟨rfl, rfl, rfl, by decide +kernel, rfl, by decide +kernel, by decide +kernel⟩
abbrev s_law_depth : Stmt := topS 49
abbrev N_law_depth : List Str := ["item", "part"]
abbrev P_law_depth : List Str := ["item"]
theorem sc_law_depth : FnScope N_law_depth P_law_depth (defScope s_law_depth) := ⟨rfl, rfl, rfl, by decide +kernel, rfl, by decide +kernel, by decide +kernel⟩
abbrev s_law_is_test : Stmt := topS 50
abbrev N_law_is_test : List Str := ["item"]
abbrev P_law_is_test : List Str := ["item"]
theorem sc_law_is_test : FnScope N_law_is_test P_law_is_test (defScope s_law_is_test) := ⟨rfl, rfl, rfl, by decide +kernel, rfl, by decide +kernel, by decide +kernel⟩
abbrev s_law_around : Stmt := topS 51
abbrev N_law_around : List Str := ["item", "side", "many", "turn", "k", "both", "parts", "found"]
abbrev P_law_around : List Str := ["item", "side", "many", "turn"]
theorem sc_law_around : FnScope N_law_around P_law_around (defScope s_law_around) := ⟨rfl, rfl, rfl, by decide +kernel, rfl, by decide +kernel, by decide +kernel⟩
abbrev s_law_many : Stmt := topS 52
abbrev N_law_many : List Str := ["draws", "names", "cell", "parts", "k", "one"]
abbrev P_law_many : List Str := ["draws", "names", "cell"]
theorem sc_law_many : FnScope N_law_many P_law_many (defScope s_law_many) := ⟨rfl, rfl, rfl, by decide +kernel, rfl, by decide +kernel, by decide +kernel⟩
abbrev s_law_great : Stmt := topS 53
abbrev N_law_great : List Str := ["draws", "cell", "great"]
abbrev P_law_great : List Str := ["draws", "cell"]
theorem sc_law_great : FnScope N_law_great P_law_great (defScope s_law_great) := ⟨rfl, rfl, rfl, by decide +kernel, rfl, by decide +kernel, by decide +kernel⟩
abbrev s_law_tokens : Stmt := topS 54
abbrev N_law_tokens : List Str := ["item", "found", "parts", "k"]
abbrev P_law_tokens : List Str := ["item"]
theorem sc_law_tokens : FnScope N_law_tokens P_law_tokens (defScope s_law_tokens) := ⟨rfl, rfl, rfl, by decide +kernel, rfl, by decide +kernel, by decide +kernel⟩
abbrev s_law_written : Stmt := topS 55
abbrev N_law_written : List Str := ["tokens", "token"]
abbrev P_law_written : List Str := ["tokens"]
theorem sc_law_written : FnScope N_law_written P_law_written (defScope s_law_written) := ⟨rfl, rfl, rfl, by decide +kernel, rfl, by decide +kernel, by decide +kernel⟩
abbrev s_law_text_item : Stmt := topS 56
abbrev N_law_text_item : List Str := ["draws", "names", "cell", "shape", "item"]
abbrev P_law_text_item : List Str := ["draws", "names", "cell"]
theorem sc_law_text_item : FnScope N_law_text_item P_law_text_item (defScope s_law_text_item) := ⟨rfl, rfl, rfl, by decide +kernel, rfl, by decide +kernel, by decide +kernel⟩
abbrev s_law_spaced : Stmt := topS 58
abbrev N_law_spaced : List Str := ["tokens", "pattern", "starts", "text", "rest", "token"]
abbrev P_law_spaced : List Str := ["tokens", "pattern", "starts"]
theorem sc_law_spaced : FnScope N_law_spaced P_law_spaced (defScope s_law_spaced) := ⟨rfl, rfl, rfl, by decide +kernel, rfl, by decide +kernel, by decide +kernel⟩
abbrev s_law_pattern : Stmt := topS 59
abbrev N_law_pattern : List Str := ["draws", "cell"]
abbrev P_law_pattern : List Str := ["draws", "cell"]
theorem sc_law_pattern : FnScope N_law_pattern P_law_pattern (defScope s_law_pattern) := ⟨rfl, rfl, rfl, by decide +kernel, rfl, by decide +kernel, by decide +kernel⟩
abbrev s_law_read : Stmt := topS 60
abbrev N_law_read : List Str := ["item", "text"]
abbrev P_law_read : List Str := ["item", "text"]
theorem sc_law_read : FnScope N_law_read P_law_read (defScope s_law_read) := ⟨rfl, rfl, rfl, by decide +kernel, rfl, by decide +kernel, by decide +kernel⟩
abbrev s_law_again : Stmt := topS 61
abbrev N_law_again : List Str := ["item", "text"]
abbrev P_law_again : List Str := ["item", "text"]
theorem sc_law_again : FnScope N_law_again P_law_again (defScope s_law_again) := ⟨rfl, rfl, rfl, by decide +kernel, rfl, by decide +kernel, by decide +kernel⟩
abbrev slaw : Stmt := topS 62
abbrev Nlaw : List Str := ["script", "draws", "cell", "names", "k", "item", "tokens", "written", "text"]
abbrev Plaw : List Str := ["script"]
theorem sclaw : FnScope Nlaw Plaw (defScope slaw) := ⟨rfl, rfl, rfl, by decide +kernel, rfl, by decide +kernel, by decide +kernel⟩
def KT (K : PySem.W.Frag) (a : Addr) (ys : List V) : Prop := ∃ o its n, List.lookup a K = some o ∧ o.cls = .type "tuple" ∧ o.data = .seq its n ∧ its.size ≤ sizeLine ∧ L2.Vals ys its.toList
theorem kt_mk {K : PySem.W.Frag} {a : Addr} {ys : List V} {o : Obj} {its : Array Value} {n : Nat} (h1 : List.lookup a K = some o) (h2 : o.cls = .type "tuple") (h3 : o.data = .seq its n) (h4 : its.size ≤ sizeLine) (h5 : L2.Vals ys its.toList) : KT K a ys := ⟨o, its, n, h1, h2, h3, h4, h5⟩
def rows_EXPRESSION_PARTS : List (Str × List Str) := [("add", ["expression", "expression"]), ("sub", ["expression", "expression"]), ("mul", ["expression", "expression"]), ("div", ["expression", "divisor"]), ("mod", ["expression", "divisor"]), ("min", ["expression", "expression"]), ("max", ["expression", "expression"]), ("abs", ["expression"]), ("if", ["condition", "expression", "expression"])]
def rows_CONDITION_PARTS : List (Str × List Str) := [("less", ["expression", "expression"]), ("equal", ["expression", "expression"]), ("not", ["condition"])]
structure Dic (K : PySem.W.Frag) (w : World) (mg : Str → Option Value) where
  c_EXPRESSION_PARTS : Addr
  g_EXPRESSION_PARTS : mg "EXPRESSION_PARTS" = some (.ref c_EXPRESSION_PARTS)
  e_EXPRESSION_PARTS : Array DictEntry
  n_EXPRESSION_PARTS : Nat
  D_EXPRESSION_PARTS : KDict K w c_EXPRESSION_PARTS e_EXPRESSION_PARTS n_EXPRESSION_PARTS
  q_EXPRESSION_PARTS : ∀ x ks, (x, ks) ∈ rows_EXPRESSION_PARTS → ∃ t, PySem.W.nsIn K c_EXPRESSION_PARTS x = some (some (.ref t)) ∧ KT K t (ks.map V.str)
  c_CONDITION_PARTS : Addr
  g_CONDITION_PARTS : mg "CONDITION_PARTS" = some (.ref c_CONDITION_PARTS)
  e_CONDITION_PARTS : Array DictEntry
  n_CONDITION_PARTS : Nat
  D_CONDITION_PARTS : KDict K w c_CONDITION_PARTS e_CONDITION_PARTS n_CONDITION_PARTS
  q_CONDITION_PARTS : ∀ x ks, (x, ks) ∈ rows_CONDITION_PARTS → ∃ t, PySem.W.nsIn K c_CONDITION_PARTS x = some (some (.ref t)) ∧ KT K t (ks.map V.str)
structure Txt (K : PySem.W.Frag) (mg : Str → Option Value) where
  z_abs : mg "abs" = none
  z_bool : mg "bool" = none
  z_int : mg "int" = none
  z_isinstance : mg "isinstance" = none
  z_len : mg "len" = none
  z_list : mg "list" = none
  z_max : mg "max" = none
  z_range : mg "range" = none
  z_str : mg "str" = none
  z_tuple : mg "tuple" = none
  u_LETTERS : Value
  g_LETTERS : mg "LETTERS" = some u_LETTERS
  r_LETTERS : L2.RelV (.str "abcdefghijklmnopqrstuvwxyz") u_LETTERS
  u_DIGITS : Value
  g_DIGITS : mg "DIGITS" = some u_DIGITS
  r_DIGITS : L2.RelV (.str "0123456789") u_DIGITS
  u_MOST_DIGITS : Value
  g_MOST_DIGITS : mg "MOST_DIGITS" = some u_MOST_DIGITS
  r_MOST_DIGITS : L2.RelV (.int 60) u_MOST_DIGITS
  c_WORDS : Addr
  g_WORDS : mg "WORDS" = some (.ref c_WORDS)
  k_WORDS : KT K c_WORDS [(.str "true"), (.str "false"), (.str "add"), (.str "sub"), (.str "mul"), (.str "div"), (.str "mod"), (.str "min"), (.str "max"), (.str "abs"), (.str "if"), (.str "less"), (.str "equal"), (.str "not"), (.str "all"), (.str "any")]
  u_MOST_DEPTH : Value
  g_MOST_DEPTH : mg "MOST_DEPTH" = some u_MOST_DEPTH
  r_MOST_DEPTH : L2.RelV (.int 12) u_MOST_DEPTH
  arun_end : Addr
  drun_end : FuncData
  Frun_end : Fun K "run_end" "run_end" srun_end arun_end drun_end
  mrun_end : mg "run_end" = some (.ref arun_end)
  ais_name : Addr
  dis_name : FuncData
  Fis_name : Fun K "is_name" "is_name" sis_name ais_name dis_name
  mis_name : mg "is_name" = some (.ref ais_name)
  ais_integer : Addr
  dis_integer : FuncData
  Fis_integer : Fun K "is_integer" "is_integer" sis_integer ais_integer dis_integer
  mis_integer : mg "is_integer" = some (.ref ais_integer)
  aparts_in : Addr
  dparts_in : FuncData
  Fparts_in : Fun K "parts_in" "parts_in" sparts_in aparts_in dparts_in
  mparts_in : mg "parts_in" = some (.ref aparts_in)
  atokens_of : Addr
  dtokens_of : FuncData
  Ftokens_of : Fun K "tokens_of" "tokens_of" stokens_of atokens_of dtokens_of
  mtokens_of : mg "tokens_of" = some (.ref atokens_of)
  a_piece_end : Addr
  d_piece_end : FuncData
  F_piece_end : Fun K "_piece_end" "_piece_end" s_piece_end a_piece_end d_piece_end
  m_piece_end : mg "_piece_end" = some (.ref a_piece_end)
  aread_whole : Addr
  dread_whole : FuncData
  Fread_whole : Fun K "read_whole" "read_whole" sread_whole aread_whole dread_whole
  mread_whole : mg "read_whole" = some (.ref aread_whole)
  a_pass_token : Addr
  d_pass_token : FuncData
  F_pass_token : Fun K "_pass_token" "_pass_token" s_pass_token a_pass_token d_pass_token
  m_pass_token : mg "_pass_token" = some (.ref a_pass_token)
  a_read_part : Addr
  d_read_part : FuncData
  F_read_part : Fun K "_read_part" "_read_part" s_read_part a_read_part d_read_part
  m_read_part : mg "_read_part" = some (.ref a_read_part)
  a_read_divisor : Addr
  d_read_divisor : FuncData
  F_read_divisor : Fun K "_read_divisor" "_read_divisor" s_read_divisor a_read_divisor d_read_divisor
  m_read_divisor : mg "_read_divisor" = some (.ref a_read_divisor)
  a_read_expression : Addr
  d_read_expression : FuncData
  F_read_expression : Fun K "_read_expression" "_read_expression" s_read_expression a_read_expression d_read_expression
  m_read_expression : mg "_read_expression" = some (.ref a_read_expression)
  a_read_condition : Addr
  d_read_condition : FuncData
  F_read_condition : Fun K "_read_condition" "_read_condition" s_read_condition a_read_condition d_read_condition
  m_read_condition : mg "_read_condition" = some (.ref a_read_condition)
  a_read_parts : Addr
  d_read_parts : FuncData
  F_read_parts : Fun K "_read_parts" "_read_parts" s_read_parts a_read_parts d_read_parts
  m_read_parts : mg "_read_parts" = some (.ref a_read_parts)
  a_read_conditions : Addr
  d_read_conditions : FuncData
  F_read_conditions : Fun K "_read_conditions" "_read_conditions" s_read_conditions a_read_conditions d_read_conditions
  m_read_conditions : mg "_read_conditions" = some (.ref a_read_conditions)
  awrite_expression : Addr
  dwrite_expression : FuncData
  Fwrite_expression : Fun K "write_expression" "write_expression" swrite_expression awrite_expression dwrite_expression
  mwrite_expression : mg "write_expression" = some (.ref awrite_expression)
  awrite_condition : Addr
  dwrite_condition : FuncData
  Fwrite_condition : Fun K "write_condition" "write_condition" swrite_condition awrite_condition dwrite_condition
  mwrite_condition : mg "write_condition" = some (.ref awrite_condition)
  a_written : Addr
  d_written : FuncData
  F_written : Fun K "_written" "_written" s_written a_written d_written
  m_written : mg "_written" = some (.ref a_written)
  aread_expression : Addr
  dread_expression : FuncData
  Fread_expression : Fun K "read_expression" "read_expression" sread_expression aread_expression dread_expression
  mread_expression : mg "read_expression" = some (.ref aread_expression)
  aread_condition : Addr
  dread_condition : FuncData
  Fread_condition : Fun K "read_condition" "read_condition" sread_condition aread_condition dread_condition
  mread_condition : mg "read_condition" = some (.ref aread_condition)
  a_law_draws : Addr
  d_law_draws : FuncData
  F_law_draws : Fun K "_law_draws" "_law_draws" s_law_draws a_law_draws d_law_draws
  m_law_draws : mg "_law_draws" = some (.ref a_law_draws)
  a_law_take : Addr
  d_law_take : FuncData
  F_law_take : Fun K "_law_take" "_law_take" s_law_take a_law_take d_law_take
  m_law_take : mg "_law_take" = some (.ref a_law_take)
  a_law_cell : Addr
  d_law_cell : FuncData
  F_law_cell : Fun K "_law_cell" "_law_cell" s_law_cell a_law_cell d_law_cell
  m_law_cell : mg "_law_cell" = some (.ref a_law_cell)
  a_law_word : Addr
  d_law_word : FuncData
  F_law_word : Fun K "_law_word" "_law_word" s_law_word a_law_word d_law_word
  m_law_word : mg "_law_word" = some (.ref a_law_word)
  a_law_some_word : Addr
  d_law_some_word : FuncData
  F_law_some_word : Fun K "_law_some_word" "_law_some_word" s_law_some_word a_law_some_word d_law_some_word
  m_law_some_word : mg "_law_some_word" = some (.ref a_law_some_word)
  a_law_reserved : Addr
  d_law_reserved : FuncData
  F_law_reserved : Fun K "_law_reserved" "_law_reserved" s_law_reserved a_law_reserved d_law_reserved
  m_law_reserved : mg "_law_reserved" = some (.ref a_law_reserved)
  a_law_name : Addr
  d_law_name : FuncData
  F_law_name : Fun K "_law_name" "_law_name" s_law_name a_law_name d_law_name
  m_law_name : mg "_law_name" = some (.ref a_law_name)
  a_law_names : Addr
  d_law_names : FuncData
  F_law_names : Fun K "_law_names" "_law_names" s_law_names a_law_names d_law_names
  m_law_names : mg "_law_names" = some (.ref a_law_names)
  a_law_same : Addr
  d_law_same : FuncData
  F_law_same : Fun K "_law_same" "_law_same" s_law_same a_law_same d_law_same
  m_law_same : mg "_law_same" = some (.ref a_law_same)
  a_law_number : Addr
  d_law_number : FuncData
  F_law_number : Fun K "_law_number" "_law_number" s_law_number a_law_number d_law_number
  m_law_number : mg "_law_number" = some (.ref a_law_number)
  a_law_leaf : Addr
  d_law_leaf : FuncData
  F_law_leaf : Fun K "_law_leaf" "_law_leaf" s_law_leaf a_law_leaf d_law_leaf
  m_law_leaf : mg "_law_leaf" = some (.ref a_law_leaf)
  a_law_expression : Addr
  d_law_expression : FuncData
  F_law_expression : Fun K "_law_expression" "_law_expression" s_law_expression a_law_expression d_law_expression
  m_law_expression : mg "_law_expression" = some (.ref a_law_expression)
  a_law_test : Addr
  d_law_test : FuncData
  F_law_test : Fun K "_law_test" "_law_test" s_law_test a_law_test d_law_test
  m_law_test : mg "_law_test" = some (.ref a_law_test)
  a_law_inner : Addr
  d_law_inner : FuncData
  F_law_inner : Fun K "_law_inner" "_law_inner" s_law_inner a_law_inner d_law_inner
  m_law_inner : mg "_law_inner" = some (.ref a_law_inner)
  a_law_depth : Addr
  d_law_depth : FuncData
  F_law_depth : Fun K "_law_depth" "_law_depth" s_law_depth a_law_depth d_law_depth
  m_law_depth : mg "_law_depth" = some (.ref a_law_depth)
  a_law_is_test : Addr
  d_law_is_test : FuncData
  F_law_is_test : Fun K "_law_is_test" "_law_is_test" s_law_is_test a_law_is_test d_law_is_test
  m_law_is_test : mg "_law_is_test" = some (.ref a_law_is_test)
  a_law_around : Addr
  d_law_around : FuncData
  F_law_around : Fun K "_law_around" "_law_around" s_law_around a_law_around d_law_around
  m_law_around : mg "_law_around" = some (.ref a_law_around)
  a_law_many : Addr
  d_law_many : FuncData
  F_law_many : Fun K "_law_many" "_law_many" s_law_many a_law_many d_law_many
  m_law_many : mg "_law_many" = some (.ref a_law_many)
  a_law_great : Addr
  d_law_great : FuncData
  F_law_great : Fun K "_law_great" "_law_great" s_law_great a_law_great d_law_great
  m_law_great : mg "_law_great" = some (.ref a_law_great)
  a_law_tokens : Addr
  d_law_tokens : FuncData
  F_law_tokens : Fun K "_law_tokens" "_law_tokens" s_law_tokens a_law_tokens d_law_tokens
  m_law_tokens : mg "_law_tokens" = some (.ref a_law_tokens)
  a_law_written : Addr
  d_law_written : FuncData
  F_law_written : Fun K "_law_written" "_law_written" s_law_written a_law_written d_law_written
  m_law_written : mg "_law_written" = some (.ref a_law_written)
  a_law_text_item : Addr
  d_law_text_item : FuncData
  F_law_text_item : Fun K "_law_text_item" "_law_text_item" s_law_text_item a_law_text_item d_law_text_item
  m_law_text_item : mg "_law_text_item" = some (.ref a_law_text_item)
  a_law_spaced : Addr
  d_law_spaced : FuncData
  F_law_spaced : Fun K "_law_spaced" "_law_spaced" s_law_spaced a_law_spaced d_law_spaced
  m_law_spaced : mg "_law_spaced" = some (.ref a_law_spaced)
  a_law_pattern : Addr
  d_law_pattern : FuncData
  F_law_pattern : Fun K "_law_pattern" "_law_pattern" s_law_pattern a_law_pattern d_law_pattern
  m_law_pattern : mg "_law_pattern" = some (.ref a_law_pattern)
  a_law_read : Addr
  d_law_read : FuncData
  F_law_read : Fun K "_law_read" "_law_read" s_law_read a_law_read d_law_read
  m_law_read : mg "_law_read" = some (.ref a_law_read)
  a_law_again : Addr
  d_law_again : FuncData
  F_law_again : Fun K "_law_again" "_law_again" s_law_again a_law_again d_law_again
  m_law_again : mg "_law_again" = some (.ref a_law_again)
  alaw : Addr
  dlaw : FuncData
  Flaw : Fun K "law" "law" slaw alaw dlaw
  mlaw : mg "law" = some (.ref alaw)
theorem Txt.brun_end {K : PySem.W.Frag} {mg : Str → Option Value} (T : Txt K mg) : Binds K T.drun_end Prun_end [] := T.Frun_end.binds fun _ _ _ _ _ _ us hl => match us, hl with | [_, _, _], _ => rfl
theorem Txt.bis_name {K : PySem.W.Frag} {mg : Str → Option Value} (T : Txt K mg) : Binds K T.dis_name Pis_name [] := T.Fis_name.binds fun _ _ _ _ _ _ us hl => match us, hl with | [_], _ => rfl
theorem Txt.bis_integer {K : PySem.W.Frag} {mg : Str → Option Value} (T : Txt K mg) : Binds K T.dis_integer Pis_integer [] := T.Fis_integer.binds fun _ _ _ _ _ _ us hl => match us, hl with | [_], _ => rfl
theorem Txt.bparts_in {K : PySem.W.Frag} {mg : Str → Option Value} (T : Txt K mg) : Binds K T.dparts_in Pparts_in [] := T.Fparts_in.binds fun _ _ _ _ _ _ us hl => match us, hl with | [_], _ => rfl
theorem Txt.btokens_of {K : PySem.W.Frag} {mg : Str → Option Value} (T : Txt K mg) : Binds K T.dtokens_of Ptokens_of [] := T.Ftokens_of.binds fun _ _ _ _ _ _ us hl => match us, hl with | [_], _ => rfl
theorem Txt.b_piece_end {K : PySem.W.Frag} {mg : Str → Option Value} (T : Txt K mg) : Binds K T.d_piece_end P_piece_end [] := T.F_piece_end.binds fun _ _ _ _ _ _ us hl => match us, hl with | [_, _], _ => rfl
theorem Txt.bread_whole {K : PySem.W.Frag} {mg : Str → Option Value} (T : Txt K mg) : Binds K T.dread_whole Pread_whole [] := T.Fread_whole.binds fun _ _ _ _ _ _ us hl => match us, hl with | [_, _], _ => rfl
theorem Txt.b_pass_token {K : PySem.W.Frag} {mg : Str → Option Value} (T : Txt K mg) : Binds K T.d_pass_token P_pass_token [] := T.F_pass_token.binds fun _ _ _ _ _ _ us hl => match us, hl with | [_, _, _], _ => rfl
theorem Txt.b_read_part {K : PySem.W.Frag} {mg : Str → Option Value} (T : Txt K mg) : Binds K T.d_read_part P_read_part [] := T.F_read_part.binds fun _ _ _ _ _ _ us hl => match us, hl with | [_, _, _, _], _ => rfl
theorem Txt.b_read_divisor {K : PySem.W.Frag} {mg : Str → Option Value} (T : Txt K mg) : Binds K T.d_read_divisor P_read_divisor [] := T.F_read_divisor.binds fun _ _ _ _ _ _ us hl => match us, hl with | [_, _], _ => rfl
theorem Txt.b_read_expression {K : PySem.W.Frag} {mg : Str → Option Value} (T : Txt K mg) : Binds K T.d_read_expression P_read_expression [] := T.F_read_expression.binds fun _ _ _ _ _ _ us hl => match us, hl with | [_, _, _], _ => rfl
theorem Txt.b_read_condition {K : PySem.W.Frag} {mg : Str → Option Value} (T : Txt K mg) : Binds K T.d_read_condition P_read_condition [] := T.F_read_condition.binds fun _ _ _ _ _ _ us hl => match us, hl with | [_, _, _], _ => rfl
theorem Txt.b_read_parts {K : PySem.W.Frag} {mg : Str → Option Value} (T : Txt K mg) : Binds K T.d_read_parts P_read_parts [] := T.F_read_parts.binds fun _ _ _ _ _ _ us hl => match us, hl with | [_, _, _, _], _ => rfl
theorem Txt.b_read_conditions {K : PySem.W.Frag} {mg : Str → Option Value} (T : Txt K mg) : Binds K T.d_read_conditions P_read_conditions [] := T.F_read_conditions.binds fun _ _ _ _ _ _ us hl => match us, hl with | [_, _, _], _ => rfl
theorem Txt.bwrite_expression {K : PySem.W.Frag} {mg : Str → Option Value} (T : Txt K mg) : Binds K T.dwrite_expression Pwrite_expression [] := T.Fwrite_expression.binds fun _ _ _ _ _ _ us hl => match us, hl with | [_], _ => rfl
theorem Txt.bwrite_condition {K : PySem.W.Frag} {mg : Str → Option Value} (T : Txt K mg) : Binds K T.dwrite_condition Pwrite_condition [] := T.Fwrite_condition.binds fun _ _ _ _ _ _ us hl => match us, hl with | [_], _ => rfl
theorem Txt.b_written {K : PySem.W.Frag} {mg : Str → Option Value} (T : Txt K mg) : Binds K T.d_written P_written [] := T.F_written.binds fun _ _ _ _ _ _ us hl => match us, hl with | [_], _ => rfl
theorem Txt.bread_expression {K : PySem.W.Frag} {mg : Str → Option Value} (T : Txt K mg) : Binds K T.dread_expression Pread_expression [] := T.Fread_expression.binds fun _ _ _ _ _ _ us hl => match us, hl with | [_], _ => rfl
theorem Txt.bread_condition {K : PySem.W.Frag} {mg : Str → Option Value} (T : Txt K mg) : Binds K T.dread_condition Pread_condition [] := T.Fread_condition.binds fun _ _ _ _ _ _ us hl => match us, hl with | [_], _ => rfl
theorem Txt.b_law_draws {K : PySem.W.Frag} {mg : Str → Option Value} (T : Txt K mg) : Binds K T.d_law_draws P_law_draws [] := T.F_law_draws.binds fun _ _ _ _ _ _ us hl => match us, hl with | [_, _], _ => rfl
theorem Txt.b_law_take {K : PySem.W.Frag} {mg : Str → Option Value} (T : Txt K mg) : Binds K T.d_law_take P_law_take [] := T.F_law_take.binds fun _ _ _ _ _ _ us hl => match us, hl with | [_, _], _ => rfl
theorem Txt.b_law_cell {K : PySem.W.Frag} {mg : Str → Option Value} (T : Txt K mg) : Binds K T.d_law_cell P_law_cell [] := T.F_law_cell.binds fun _ _ _ _ _ _ us hl => match us, hl with | [_, _], _ => rfl
theorem Txt.b_law_word {K : PySem.W.Frag} {mg : Str → Option Value} (T : Txt K mg) : Binds K T.d_law_word P_law_word [] := T.F_law_word.binds fun _ _ _ _ _ _ us hl => match us, hl with | [_], _ => rfl
theorem Txt.b_law_some_word {K : PySem.W.Frag} {mg : Str → Option Value} (T : Txt K mg) : Binds K T.d_law_some_word P_law_some_word [] := T.F_law_some_word.binds fun _ _ _ _ _ _ us hl => match us, hl with | [_], _ => rfl
theorem Txt.b_law_reserved {K : PySem.W.Frag} {mg : Str → Option Value} (T : Txt K mg) : Binds K T.d_law_reserved P_law_reserved [] := T.F_law_reserved.binds fun _ _ _ _ _ _ us hl => match us, hl with | [], _ => rfl
theorem Txt.b_law_name {K : PySem.W.Frag} {mg : Str → Option Value} (T : Txt K mg) : Binds K T.d_law_name P_law_name [] := T.F_law_name.binds fun _ _ _ _ _ _ us hl => match us, hl with | [_], _ => rfl
theorem Txt.b_law_names {K : PySem.W.Frag} {mg : Str → Option Value} (T : Txt K mg) : Binds K T.d_law_names P_law_names [] := T.F_law_names.binds fun _ _ _ _ _ _ us hl => match us, hl with | [_, _], _ => rfl
theorem Txt.b_law_same {K : PySem.W.Frag} {mg : Str → Option Value} (T : Txt K mg) : Binds K T.d_law_same P_law_same [] := T.F_law_same.binds fun _ _ _ _ _ _ us hl => match us, hl with | [_, _], _ => rfl
theorem Txt.b_law_number {K : PySem.W.Frag} {mg : Str → Option Value} (T : Txt K mg) : Binds K T.d_law_number P_law_number [] := T.F_law_number.binds fun _ _ _ _ _ _ us hl => match us, hl with | [_, _], _ => rfl
theorem Txt.b_law_leaf {K : PySem.W.Frag} {mg : Str → Option Value} (T : Txt K mg) : Binds K T.d_law_leaf P_law_leaf [] := T.F_law_leaf.binds fun _ _ _ _ _ _ us hl => match us, hl with | [_, _, _], _ => rfl
theorem Txt.b_law_expression {K : PySem.W.Frag} {mg : Str → Option Value} (T : Txt K mg) : Binds K T.d_law_expression P_law_expression [] := T.F_law_expression.binds fun _ _ _ _ _ _ us hl => match us, hl with | [_, _, _, _], _ => rfl
theorem Txt.b_law_test {K : PySem.W.Frag} {mg : Str → Option Value} (T : Txt K mg) : Binds K T.d_law_test P_law_test [] := T.F_law_test.binds fun _ _ _ _ _ _ us hl => match us, hl with | [_, _, _, _], _ => rfl
theorem Txt.b_law_inner {K : PySem.W.Frag} {mg : Str → Option Value} (T : Txt K mg) : Binds K T.d_law_inner P_law_inner [] := T.F_law_inner.binds fun _ _ _ _ _ _ us hl => match us, hl with | [_], _ => rfl
theorem Txt.b_law_depth {K : PySem.W.Frag} {mg : Str → Option Value} (T : Txt K mg) : Binds K T.d_law_depth P_law_depth [] := T.F_law_depth.binds fun _ _ _ _ _ _ us hl => match us, hl with | [_], _ => rfl
theorem Txt.b_law_is_test {K : PySem.W.Frag} {mg : Str → Option Value} (T : Txt K mg) : Binds K T.d_law_is_test P_law_is_test [] := T.F_law_is_test.binds fun _ _ _ _ _ _ us hl => match us, hl with | [_], _ => rfl
theorem Txt.b_law_around {K : PySem.W.Frag} {mg : Str → Option Value} (T : Txt K mg) : Binds K T.d_law_around P_law_around [] := T.F_law_around.binds fun _ _ _ _ _ _ us hl => match us, hl with | [_, _, _, _], _ => rfl
theorem Txt.b_law_many {K : PySem.W.Frag} {mg : Str → Option Value} (T : Txt K mg) : Binds K T.d_law_many P_law_many [] := T.F_law_many.binds fun _ _ _ _ _ _ us hl => match us, hl with | [_, _, _], _ => rfl
theorem Txt.b_law_great {K : PySem.W.Frag} {mg : Str → Option Value} (T : Txt K mg) : Binds K T.d_law_great P_law_great [] := T.F_law_great.binds fun _ _ _ _ _ _ us hl => match us, hl with | [_, _], _ => rfl
theorem Txt.b_law_tokens {K : PySem.W.Frag} {mg : Str → Option Value} (T : Txt K mg) : Binds K T.d_law_tokens P_law_tokens [] := T.F_law_tokens.binds fun _ _ _ _ _ _ us hl => match us, hl with | [_], _ => rfl
theorem Txt.b_law_written {K : PySem.W.Frag} {mg : Str → Option Value} (T : Txt K mg) : Binds K T.d_law_written P_law_written [] := T.F_law_written.binds fun _ _ _ _ _ _ us hl => match us, hl with | [_], _ => rfl
theorem Txt.b_law_text_item {K : PySem.W.Frag} {mg : Str → Option Value} (T : Txt K mg) : Binds K T.d_law_text_item P_law_text_item [] := T.F_law_text_item.binds fun _ _ _ _ _ _ us hl => match us, hl with | [_, _, _], _ => rfl
theorem Txt.b_law_spaced {K : PySem.W.Frag} {mg : Str → Option Value} (T : Txt K mg) : Binds K T.d_law_spaced P_law_spaced [] := T.F_law_spaced.binds fun _ _ _ _ _ _ us hl => match us, hl with | [_, _, _], _ => rfl
theorem Txt.b_law_pattern {K : PySem.W.Frag} {mg : Str → Option Value} (T : Txt K mg) : Binds K T.d_law_pattern P_law_pattern [] := T.F_law_pattern.binds fun _ _ _ _ _ _ us hl => match us, hl with | [_, _], _ => rfl
theorem Txt.b_law_read {K : PySem.W.Frag} {mg : Str → Option Value} (T : Txt K mg) : Binds K T.d_law_read P_law_read [] := T.F_law_read.binds fun _ _ _ _ _ _ us hl => match us, hl with | [_, _], _ => rfl
theorem Txt.b_law_again {K : PySem.W.Frag} {mg : Str → Option Value} (T : Txt K mg) : Binds K T.d_law_again P_law_again [] := T.F_law_again.binds fun _ _ _ _ _ _ us hl => match us, hl with | [_, _], _ => rfl
theorem Txt.blaw {K : PySem.W.Frag} {mg : Str → Option Value} (T : Txt K mg) : Binds K T.dlaw Plaw [] := T.Flaw.binds fun _ _ _ _ _ _ us hl => match us, hl with | [_], _ => rfl
end NL

namespace NL
open PySem PySem.Spec PyProof.Rows L2

/-! ### frames: what stays while the list of draws at d is used up -/
structure Go (d : Addr) (H H' : Hp) : Prop where
  fr : ∀ b o, b ≠ d → H b = some o → H' b = some o
  dr : ∃ ns : List Int, H' d = some (.lst (ns.map V.int))
abbrev Dr (H : Hp) (d : Addr) : Prop := ∃ ns : List Int, H d = some (.lst (ns.map V.int))
theorem Go.refl {d : Addr} {H : Hp} (h : Dr H d) : Go d H H := ⟨fun _ _ _ e => e, h⟩
theorem Go.trans {d : Addr} {H H1 H2 : Hp} (a : Go d H H1) (b : Go d H1 H2) : Go d H H2 := ⟨fun c o n e => b.fr c o n (a.fr c o n e), b.dr⟩
theorem Go.new {d p : Addr} {H : Hp} {o : HO} (h : Dr H d) (hp : H p = none) : Go d H (upd H p o) := by
  obtain ⟨ns, e⟩ := h
  have n : d ≠ p := ne_of_none e hp
  exact ⟨fun b u _ q => by rw [upd_ne (ne_of_none q hp)]; exact q, ⟨ns, by rw [upd_ne n]; exact e⟩⟩
theorem Go.put {d : Addr} {H : Hp} (ns : List Int) : Go d H (upd H d (.lst (ns.map V.int))) := ⟨fun b u n q => by rw [upd_ne n]; exact q, ⟨ns, upd_same⟩⟩
theorem Go.same {d : Addr} {H H' : Hp} (h : Dr H d) (s : Same H H') : Go d H H' := ⟨fun b o _ e => s b o e, by obtain ⟨ns, e⟩ := h; exact ⟨ns, s _ _ e⟩⟩
theorem Go.tup {d a : Addr} {H H' : Hp} {xs : List V} (g : Go d H H') (h : Dr H d) (e : H a = some (.tup xs)) : H' a = some (.tup xs) := by
  refine g.fr a _ ?_ e
  rintro rfl
  obtain ⟨ns, q⟩ := h
  rw [e] at q; cases q
theorem same_new {H : Hp} {p : Addr} (h : H p = none) (o : HO) : Same H (upd H p o) := fun b u q => by rw [upd_ne (ne_of_none q h)]; exact q
/-- all tuples stay -/
def Tp (H H' : Hp) : Prop := ∀ a xs, H a = some (.tup xs) → H' a = some (.tup xs)
theorem Go.tp {d : Addr} {H H' : Hp} (g : Go d H H') (h : Dr H d) : Tp H H' := fun _ _ e => g.tup h e
theorem Tp.same {H H' : Hp} (s : Same H H') : Tp H H' := fun _ _ e => s _ _ e
theorem Tp.trans {H H1 H2 : Hp} (a : Tp H H1) (b : Tp H1 H2) : Tp H H2 := fun x y e => b x y (a x y e)
theorem Tp.refl {H : Hp} : Tp H H := fun _ _ e => e
/-- a list that stays readable whatever is drawn at d -/
def Keep (K : PySem.W.Frag) (d : Addr) (H : Hp) (a : Addr) (xs : List V) : Prop := ∀ H', (∀ b o, b ≠ d → H b = some o → H' b = some o) → SqL K H' a xs
theorem Keep.now {K : PySem.W.Frag} {d a : Addr} {H : Hp} {xs : List V} (k : Keep K d H a xs) : SqL K H a xs := k H fun _ _ _ e => e
theorem Keep.go {K : PySem.W.Frag} {d a : Addr} {H H' : Hp} {xs : List V} (k : Keep K d H a xs) (g : Go d H H') : Keep K d H' a xs := fun H2 f => k H2 fun b o n e => f b o n (g.fr b o n e)
theorem Keep.of {K : PySem.W.Frag} {d a : Addr} {H : Hp} {xs : List V} (n : a ≠ d) (h : H a = some (.lst xs)) : Keep K d H a xs := fun H' f => .inl (.inl (f a _ n h))
/-- what was read ahead of the draws' list stays -/
theorem Keep.old {K : PySem.W.Frag} {d a : Addr} {H0 H : Hp} {xs : List V} (h : SqL K H0 a xs) (hd : H0 d = none) (f : ∀ b o, H0 b = some o → H b = some o) : Keep K d H a xs := fun H' g => by
  rcases h with (h | ⟨o, h⟩) | h
  · exact .inl (.inl (g a _ (ne_of_none h hd) (f _ _ h)))
  · exact .inl (.inr ⟨o, g a _ (ne_of_none h hd) (f _ _ h)⟩)
  · exact .inr h

/-! ### rules whose written part is named (in a comprehension) -/
theorem ix_tupK {X : Cx} {K : PySem.W.Frag} (h : X.K = K) : IxR X (rIxT K) := by subst h; exact ix_tup
theorem ix_listK {X : Cx} {K : PySem.W.Frag} (h : X.K = K) : IxR X (rIxL K) := by subst h; exact ix_list
def rTupOf (K : PySem.W.Frag) : List V → Hp → VK → Prop := fun xs H Q => ∃ p ys, xs = [.ref p] ∧ ((SqL K H p ys ∧ ∀ l, H l = none → Q (.ref l) (upd H l (.tup ys))) ∨ (SqT K H p ys ∧ Q (.ref p) H))
theorem call_tuple_ofK {X : Cx} {K : PySem.W.Frag} (h : X.K = K) : CallR X (.type "tuple") (rTupOf K) := by subst h; exact call_tuple_of
/-! ### texts and words -/
/-- signs a to z alone -/
def Wd (z : Str) : Prop := ∀ c ∈ z.cps.toList, 97 ≤ c ∧ c ≤ 122
instance (z : Str) : Decidable (Wd z) := by unfold Wd; infer_instance
def res : List Str := ["true", "false", "add", "sub", "mul", "div", "mod", "min", "max", "abs", "if", "less", "equal", "not", "all", "any"]
theorem app_list (a b : Str) : (a ++ b).cps.toList = a.cps.toList ++ b.cps.toList := by
  show (a.cps ++ b.cps).toList = _
  simp
theorem len_list (a : Str) : a.length = a.cps.toList.length := by
  show a.cps.size = _
  simp
theorem len_app (a b : Str) : (a ++ b).length = a.length + b.length := by
  rw [len_list, app_list, List.length_append, ← len_list, ← len_list]
theorem str_ext {a b : Str} (h : a.cps.toList = b.cps.toList) : a = b := by
  cases a with | mk x => cases b with | mk y =>
  have : x = y := Array.toList_inj.mp h
  rw [this]
theorem Wd.app {a b : Str} (ha : Wd a) (hb : Wd b) : Wd (a ++ b) := fun c hc => by
  rw [app_list] at hc
  rcases List.mem_append.mp hc with h | h
  · exact ha c h
  · exact hb c h
structure Nam (z : Str) : Prop where
  wd : Wd z
  len : 0 < z.length ∧ z.length ≤ 200
  nr : z ∉ res
structure Nm (z : Str) : Prop where
  wd : Wd z
  len : 0 < z.length ∧ z.length ≤ 150

/-! ### lists at an index -/
theorem atI_mem {α : Type} {xs : List α} {i : Int} (h0 : 0 ≤ i) (h1 : i < xs.length) : ∃ v, atI xs i = some v ∧ v ∈ xs := by
  have hk : i.toNat < xs.length := by omega
  have ek : i = ((i.toNat : Nat) : Int) := by omega
  have q : atI xs ((i.toNat : Nat) : Int) = some xs[i.toNat] := atI_nat (List.getElem?_eq_getElem hk)
  rw [← ek] at q
  exact ⟨_, q, List.getElem_mem hk⟩
theorem atI_map {α β : Type} {f : α → β} {xs : List α} {i : Int} (h0 : 0 ≤ i) (h1 : i < xs.length) : ∃ v, atI (xs.map f) i = some (f v) ∧ v ∈ xs := by
  obtain ⟨v, h, m⟩ := atI_mem (xs := xs.map f) h0 (by rw [List.length_map]; exact h1)
  obtain ⟨u, hu, rfl⟩ := List.mem_map.mp m
  exact ⟨u, h, hu⟩
theorem sqd {K : PySem.W.Frag} {H : Hp} {a : Addr} {xs : List V} (h : H a = some (.lst xs)) : SqL K H a xs := .inl (.inl h)
theorem sqt {K : PySem.W.Frag} {H : Hp} {a : Addr} {xs : List V} (h : H a = some (.tup xs)) : SqT K H a xs := .inl (.inl h)
theorem int_eq {i j : Int} (h : decide (V.int i = V.int j) = true) : i = j := V.int.inj (of_decide_eq_true h)
theorem int_ne {i j : Int} (h : ¬ decide (V.int i = V.int j) = true) : i ≠ j := fun e => h (decide_eq_true (by rw [e]))
section
variable {P : Program} {w : World} {K : PySem.W.Frag} {mg : Str → Option Value} {base : Heap}
/-! ### _law_take -/
def spTake : Sp := fun vs H Q _ => ∃ (d : Addr) (m : Int), vs = [.ref d, .int m] ∧ Dr H d ∧ 0 < m ∧ ∀ r H', Go d H H' → 0 ≤ r → r < m → Q (.int r) H'
theorem ok_law_take (T : Txt K mg) : FnOk P w K mg base CX0 1 T.a_law_take T.d_law_take P_law_take spTake := by
  refine T.F_law_take.ok sc_law_take (fun vs H Q E h => ?_) (fun cdv A outer s H vs Q E hr h => ?_)
  · obtain ⟨d, m, rfl, _⟩ := h
    rfl
  obtain ⟨d, m, rfl, hD, hm, q⟩ := h
  refine ⟨_, (pss_cons (ps_if (pt_cmpR op_eq (pe_callB call_len_seq (by rfl) T.z_len PySem.boot_len (pa_cons (pv 0) pa_nil)) pe_int (nomark _))
    (pss_one (ps_ret pe_int))
    pss_nil)
    (pss_one (ps_ret (pe_op op_mod (pe_callTy call_int1 (by rfl) T.z_int (by decide +kernel) (pa_cons (pe_bm0 PySem.F.plainAttrs_list PySem.F.slot_list_pop PySem.F.type_list_pop mt_pop (pv 0)) pa_nil)) (pv 1))))), ?_⟩
  obtain ⟨ns, hd⟩ := hD
  refine ⟨_, rfl, _, _, rfl, .inl (sqd hd), rfl, _, rfl, ?_⟩
  refine ite2 (fun c => ?_) (fun c => ?_)
  · exact q 0 H (Go.refl ⟨ns, hd⟩) (Int.le_refl 0) hm
  · have hn := int_ne c
    rw [List.length_map] at hn
    have hz : ns ≠ [] := by
      rintro rfl
      exact hn rfl
    have hl : 0 < ns.length := List.length_pos_iff.mpr hz
    have he : (ns.map V.int)[(ns.map V.int).length - 1]? = some (.int ns[ns.length - 1]) := by
      rw [List.length_map, List.getElem?_map, List.getElem?_eq_getElem (by omega)]
      rfl
    refine ⟨_, rfl, .inl ⟨rfl, _, sqd hd⟩, _, _, _, rfl, rfl, hd, he, .inl ⟨_, rfl, ?_⟩⟩
    refine ⟨_, rfl, _, _, rfl, rfl, hm, ?_⟩
    refine q _ _ ?_ (Int.emod_nonneg _ (by omega)) (Int.emod_lt_of_pos _ hm)
    rw [← List.map_dropLast]
    exact Go.put _
end
end NL

namespace NL
open PySem PySem.Spec PyProof.Rows L2
/-! ### a text times a number -/
theorem op_mulS {X : Cx} : OpR X (binaryOp .Mult) (fun x y H Q => ∃ (z : Str) (k : Int), x = .str z ∧ y = .int k ∧ z.length ≤ 16 ∧ 0 ≤ k ∧ k ≤ 1000 ∧ ((Txt.mul z k).length = z.length * k.toNat → Q (.str (Txt.mul z k)) H)) := by
  intro pins s σ H x y v u Q I rx ry h
  obtain ⟨z, k, rfl, rfl, hz, h0, h1, q⟩ := h
  obtain ⟨t, rfl⟩ := rx
  obtain ⟨t', rfl⟩ := ry
  refine PySem.W.KXi.mul rfl hz (by omega) (by omega) fun t' tk _ hl => ⟨.str (Txt.mul z k), H, I.tok _, ⟨_, rfl⟩, q ?_⟩
  have e := hl h0
  have e2 : k = ((k.toNat : Nat) : Int) := by omega
  rw [e2] at e
  have : ((z.length : Int) * ((k.toNat : Nat) : Int)) = ((z.length * k.toNat : Nat) : Int) := by push_cast; rfl
  rw [this] at e
  have e3 := Int.ofNat.inj e
  rw [← e2] at e3
  exact e3
def abc : Str := "abcdefghijklmnopqrstuvwxyz"
theorem abc_at {i : Int} (h0 : 0 ≤ i) (h1 : i < 26) : ∃ c, atI abc.cps.toList i = some c ∧ 97 ≤ c ∧ c ≤ 122 := by
  have hl : abc.cps.toList.length = 26 := by decide +kernel
  obtain ⟨c, h, m⟩ := atI_mem (xs := abc.cps.toList) h0 (by rw [hl]; exact h1)
  have hall : ∀ c ∈ abc.cps.toList, 97 ≤ c ∧ c ≤ 122 := by decide +kernel
  exact ⟨c, h, hall c m⟩
section
variable {P : Program} {w : World} {K : PySem.W.Frag} {mg : Str → Option Value} {base : Heap}
/-! ### _law_cell -/
def spCell (K : PySem.W.Frag) : Sp := fun vs H Q _ => ∃ (a d : Addr) (ns : List Int), vs = [.ref a, .ref d] ∧ Keep K d H a (ns.map V.int) ∧ Dr H d ∧ ∀ r H', Go d H H' → (r = 0 ∨ r ∈ ns) → Q (.int r) H'
theorem ok_law_cell (T : Txt K mg) : FnOk P w K mg base CX0 2 T.a_law_cell T.d_law_cell P_law_cell (spCell K) := by
  have G_law_take := ok_law_take (P := P) (w := w) (base := base) T
  refine T.F_law_cell.ok sc_law_cell (fun vs H Q E h => ?_) (fun cdv A outer s H vs Q E hr h => ?_)
  · obtain ⟨a, d, ns, rfl, _⟩ := h
    rfl
  obtain ⟨a, d, ns, rfl, hk, hD, q⟩ := h
  refine ⟨_, (pss_cons (ps_if (pt_cmpR op_eq (pe_callB call_len_seq (by rfl) T.z_len PySem.boot_len (pa_cons (pv 0) pa_nil)) pe_int (nomark _))
    (pss_one (ps_ret pe_int))
    pss_nil)
    (pss_one (ps_ret (pe_callTy call_int1 (by rfl) T.z_int (by decide +kernel) (pa_cons (pe_ix ix_list (pv 0) (pe_call G_law_take (hr.mono (by omega)) (by rfl) T.m_law_take T.F_law_take.kp T.b_law_take .nil pass0 (pa_cons (pv 1) (pa_cons (pe_callB call_len_seq (by rfl) T.z_len PySem.boot_len (pa_cons (pv 0) pa_nil)) pa_nil))) (fun _ _ => rfl)) pa_nil))))), ?_⟩
  refine ⟨_, rfl, _, _, rfl, .inl hk.now, rfl, _, rfl, ?_⟩
  refine ite2 (fun c => ?_) (fun c => ?_)
  · exact q 0 H (Go.refl hD) (.inl rfl)
  · have hn := int_ne c
    rw [List.length_map] at hn
    refine ⟨_, rfl, _, rfl, _, rfl, _, _, rfl, .inl hk.now, d, _, rfl, hD, by rw [List.length_map]; omega, fun r H1 g h0 h1 => ?_⟩
    rw [List.length_map] at h1
    obtain ⟨v, hv, hm⟩ := atI_map (f := V.int) h0 h1
    exact ⟨_, _, _, _, rfl, rfl, (hk.go g).now, hv, .inl ⟨_, rfl, q v H1 g (.inr hm)⟩⟩
/-! ### _law_word -/
def spWord : Sp := fun vs H Q _ => ∃ i : Int, vs = [.int i] ∧ ∀ z : Str, Wd z → z.length ≤ 60 → (1 ≤ i → 0 < z.length) → Q (.str z) H
theorem ok_law_word (T : Txt K mg) : FnOk P w K mg base CX0 1 T.a_law_word T.d_law_word P_law_word spWord := by
  refine T.F_law_word.ok sc_law_word (fun vs H Q E h => ?_) (fun cdv A outer s H vs Q E hr h => ?_)
  · obtain ⟨i, rfl, _⟩ := h
    rfl
  obtain ⟨i0, rfl, q⟩ := h
  refine ⟨_, (pss_cons (ps_set (i := 1) sc_law_word.nd rfl (Or.inl rfl) pe_str)
    (pss_cons (ps_for PassesOwn.never rfl (pi_range1 (by rfl) T.z_range (pa_cons pe_int pa_nil)) (pg_name (i := 2) sc_law_word.nd rfl (Or.inl rfl))
    (pss_cons (ps_if (pt_cmpR op_lt (pv 0) pe_int (nomark _))
    (pss_one ps_break)
    pss_nil)
    (pss_cons (ps_set (i := 1) sc_law_word.nd rfl (Or.inl rfl) (pe_op op_add_str (pe_ix ix_str pe_str (pe_op op_mod (pe_callTy call_int1 (by rfl) T.z_int (by decide +kernel) (pa_cons (pe_op op_sub (pv 0) pe_int) pa_nil)) pe_int) (fun _ _ => rfl)) (pv 1)))
    (pss_one (ps_set (i := 0) sc_law_word.nd rfl (Or.inl rfl) (pe_op op_fdiv (pe_op op_sub (pv 0) pe_int) pe_int))))))
    (pss_one (ps_ret (pv 1))))), ?_⟩
  refine ⟨60, rfl, by decide, by decide, for_range (lo := 0) (n := 60) (fun j σ H' => ∃ (i : Int) (z : Str) (y : Option V), σ = [some (.int i), some (.str z), y] ∧ H' = H ∧ Wd z ∧ z.length ≤ j ∧ (j = 0 → i = i0) ∧ (0 < j → 0 < z.length)) ?_ ?_ ?_⟩
  · exact ⟨i0, _, none, rfl, rfl, (by decide +kernel), (by decide +kernel), fun _ => rfl, fun h => absurd h (by decide)⟩
  · rintro j σ H' hj ⟨i, z, y, rfl, rfl, hw, hz, e0, e1⟩
    refine ⟨_, rfl, _, _, rfl, rfl, _, rfl, ?_⟩
    refine ite2 (fun c => ?_) (fun c => ?_)
    · have hi : i < 1 := of_decide_eq_true c
      exact ⟨_, rfl, q z hw (by omega) fun h1 => e1 (by
        rcases Nat.eq_zero_or_pos j with e | e
        · have := e0 e
          omega
        · exact e)⟩
    · obtain ⟨ch, hc, hc1⟩ := abc_at (Int.emod_nonneg (i - 1) (by decide : (26 : Int) ≠ 0)) (Int.emod_lt_of_pos (i - 1) (by decide))
      have hw1 : Wd (⟨#[ch]⟩ : Str) := fun c h => by
        have : c = ch := by simpa using h
        rw [this]
        exact hc1
      have hl : ((⟨#[ch]⟩ : Str) ++ z).length = 1 + z.length := by rw [len_app] <;> rfl
      refine ⟨_, rfl, _, _, rfl, rfl, .inl ⟨_, rfl, _, _, rfl, rfl, (by show (0 : Int) < 26; decide), _, _, ch, rfl, rfl, (by decide +kernel), hc, _, rfl, _, _, rfl, rfl, ?_, ?_⟩⟩
      · have : (⟨#[ch]⟩ : Str).length = 1 := rfl
        rw [this]
        exact Nat.le_of_lt (small1000 (by omega))
      · refine ⟨_, rfl, _, _, rfl, rfl, _, _, rfl, rfl, ⟨by decide, by decide⟩, ?_⟩
        exact ⟨_, _, _, rfl, rfl, hw1.app hw, by rw [hl]; omega, fun h => absurd h (by omega), fun _ => by rw [hl]; omega⟩
  · rintro σ H' ⟨i, z, y, rfl, rfl, hw, hz, e0, e1⟩
    exact ⟨_, rfl, q z hw hz fun _ => e1 (by decide)⟩
end
end NL

namespace NL
open PySem PySem.Spec PyProof.Rows L2
section
variable {P : Program} {w : World} {K : PySem.W.Frag} {mg : Str → Option Value} {base : Heap}
/-! ### _law_some_word -/
theorem fold_wd {p : Nat → Prop} : ∀ (l : List (Array Nat)) (acc : Array Nat), (∀ c ∈ acc.toList, p c) → (∀ a ∈ l, ∀ c ∈ a.toList, p c) → ∀ c ∈ (l.foldl (· ++ ·) acc).toList, p c
  | [], acc, h, _, c, hc => h c hc
  | a :: r, acc, h, g, c, hc => by
    refine fold_wd r (acc ++ a) (fun c hc => ?_) (fun a ha => g a (List.mem_cons_of_mem _ ha)) c hc
    rw [Array.toList_append] at hc
    rcases List.mem_append.mp hc with h1 | h1
    · exact h c h1
    · exact g a List.mem_cons_self c h1
theorem mul_wd {z : Str} (h : Wd z) (k : Int) : Wd (Txt.mul z k) := by
  unfold Txt.mul
  split
  · decide
  · split
    · exact h
    · refine fold_wd _ _ (fun c hc => by simp at hc) fun a ha => ?_
      rw [(List.mem_replicate.mp ha).2]
      exact h
def spSomeWord : Sp := fun vs H Q _ => ∃ d : Addr, vs = [.ref d] ∧ Dr H d ∧ ∀ z H', Go d H H' → Nm z → Q (.str z) H'
theorem ok_law_some_word (T : Txt K mg) : FnOk P w K mg base CX0 2 T.a_law_some_word T.d_law_some_word P_law_some_word spSomeWord := by
  have G_law_take := ok_law_take (P := P) (w := w) (base := base) T
  have G_law_word := ok_law_word (P := P) (w := w) (base := base) T
  refine T.F_law_some_word.ok sc_law_some_word (fun vs H Q E h => ?_) (fun cdv A outer s H vs Q E hr h => ?_)
  · obtain ⟨d, rfl, _⟩ := h
    rfl
  obtain ⟨d, rfl, hD, q⟩ := h
  refine ⟨_, (pss_cons (ps_set (i := 1) sc_law_some_word.nd rfl (Or.inl rfl) (pe_call G_law_take (hr.mono (by omega)) (by rfl) T.m_law_take T.F_law_take.kp T.b_law_take .nil pass0 (pa_cons (pv 0) (pa_cons pe_int pa_nil))))
    (pss_cons (ps_if (pt_cmpR op_lt (pv 1) pe_int (nomark _))
    (pss_one (ps_ret (pe_call G_law_word (hr.mono (by omega)) (by rfl) T.m_law_word T.F_law_word.kp T.b_law_word .nil pass0 (pa_cons (pe_op op_add (pe_op op_add pe_int (pe_op op_mod (pv 1) pe_int)) (pe_op op_mul pe_int (pe_op op_mod (pe_op op_fdiv (pv 1) pe_int) pe_int))) pa_nil))))
    pss_nil)
    (pss_cons (ps_if (pt_cmpR op_lt (pv 1) pe_int (nomark _))
    (pss_one (ps_ret (pe_call G_law_word (hr.mono (by omega)) (by rfl) T.m_law_word T.F_law_word.kp T.b_law_word .nil pass0 (pa_cons (pe_op op_add pe_int (pe_call G_law_take (hr.mono (by omega)) (by rfl) T.m_law_take T.F_law_take.kp T.b_law_take .nil pass0 (pa_cons (pv 0) (pa_cons pe_int pa_nil)))) pa_nil))))
    pss_nil)
    (pss_cons (ps_if (pt_cmpR op_lt (pv 1) pe_int (nomark _))
    (pss_one (ps_ret (pe_op op_add_str (pe_op op_mulS pe_str (pe_op op_add pe_int (pe_op op_mod (pe_callTy call_int1 (by rfl) T.z_int (by decide +kernel) (pa_cons (pv 1) pa_nil)) pe_int))) (pe_call G_law_word (hr.mono (by omega)) (by rfl) T.m_law_word T.F_law_word.kp T.b_law_word .nil pass0 (pa_cons (pe_op op_add pe_int (pe_call G_law_take (hr.mono (by omega)) (by rfl) T.m_law_take T.F_law_take.kp T.b_law_take .nil pass0 (pa_cons (pv 0) (pa_cons pe_int pa_nil)))) pa_nil)))))
    pss_nil)
    (pss_cons (ps_set (i := 2) sc_law_some_word.nd rfl (Or.inl rfl) (pe_op op_add (pe_op op_mul pe_int (pe_call G_law_take (hr.mono (by omega)) (by rfl) T.m_law_take T.F_law_take.kp T.b_law_take .nil pass0 (pa_cons (pv 0) (pa_cons pe_int pa_nil)))) (pe_op op_mul pe_int (pe_call G_law_take (hr.mono (by omega)) (by rfl) T.m_law_take T.F_law_take.kp T.b_law_take .nil pass0 (pa_cons (pv 0) (pa_cons pe_int pa_nil))))))
    (C8.pss_cut (ps_if (pt_cmpR op_ge (pv 1) pe_int (nomark _))
    (pss_one (ps_set (i := 2) sc_law_some_word.nd rfl (Or.inl rfl) (pe_op op_mul (pv 2) (pe_op op_pow pe_int pe_int))))
    pss_nil)
    (pss_one (ps_ret (pe_call G_law_word (hr.mono (by omega)) (by rfl) T.m_law_word T.F_law_word.kp T.b_law_word .nil pass0 (pa_cons (pe_op op_add (pe_op op_add pe_int (pv 2)) (pe_call G_law_take (hr.mono (by omega)) (by rfl) T.m_law_take T.F_law_take.kp T.b_law_take .nil pass0 (pa_cons (pv 0) (pa_cons pe_int pa_nil)))) pa_nil)))))))))), ?_⟩
  -- number = take(draws, 1000)
  refine ⟨_, rfl, d, _, rfl, hD, (by decide), fun n H1 g1 n0 n1 => ?_⟩
  -- if number < 600
  refine ⟨_, rfl, _, _, rfl, rfl, _, rfl, ?_⟩
  refine ite2 (fun c => ?_) (fun c => ?_)
  · refine ⟨_, rfl, _, _, rfl, rfl, (by show (0 : Int) < 6; decide), _, _, rfl, rfl, _, rfl, _, _, rfl, rfl, ⟨by decide, by decide⟩, _, _, rfl, rfl, (by show (0 : Int) < 2; decide), _, _, rfl, rfl, .inl ⟨by decide, by decide⟩, _, _, rfl, rfl, _, rfl, fun z hw hl hp => ?_⟩
    have b1 := Int.emod_nonneg n (by decide : (6 : Int) ≠ 0)
    have b2 := Int.emod_nonneg (n / 100) (by decide : (2 : Int) ≠ 0)
    exact q z H1 g1 ⟨hw, hp (by omega), by omega⟩
  -- if number < 850
  refine ⟨_, rfl, _, _, rfl, rfl, _, rfl, ?_⟩
  refine ite2 (fun c => ?_) (fun c => ?_)
  · refine ⟨_, rfl, d, _, rfl, g1.dr, (by decide), fun r H2 g2 r0 r1 => ?_⟩
    refine ⟨_, _, rfl, rfl, _, rfl, fun z hw hl hp => ?_⟩
    exact q z H2 (g1.trans g2) ⟨hw, hp (by omega), by omega⟩
  -- if number < 875
  refine ⟨_, rfl, _, _, rfl, rfl, _, rfl, ?_⟩
  refine ite2 (fun c => ?_) (fun c => ?_)
  · have b1 := Int.emod_nonneg n (by decide : (6 : Int) ≠ 0)
    have b2 := Int.emod_lt_of_pos n (by decide : (0 : Int) < 6)
    refine ⟨_, rfl, .inl ⟨_, rfl, _, _, rfl, rfl, (by show (0 : Int) < 6; decide), _, _, rfl, rfl, _, _, rfl, rfl, (by decide +kernel), (by omega), (by omega), fun hm => ?_⟩⟩
    refine ⟨_, rfl, d, _, rfl, g1.dr, (by decide), fun r H2 g2 r0 r1 => ?_⟩
    refine ⟨_, _, rfl, rfl, _, rfl, fun z hw hl hp => ?_⟩
    have l12 : ("abcdefghijkl" : Str).length = 12 := by decide +kernel
    have w12 : Wd ("abcdefghijkl" : Str) := by decide +kernel
    rw [l12] at hm
    have hb : (1 + n % 6).toNat ≤ 6 := by omega
    have hp' := hp (by omega)
    refine ⟨_, _, rfl, rfl, ?_, q _ H2 (g1.trans g2) ⟨(mul_wd w12 _).app hw, ?_, ?_⟩⟩
    · rw [hm]
      exact Nat.le_of_lt (small1000 (by omega))
    · rw [len_app]; omega
    · rw [len_app, hm]; omega
  -- great = ..
  refine ⟨_, rfl, d, _, rfl, g1.dr, (by decide), fun r H2 g2 r0 r1 => ?_⟩
  refine ⟨_, _, rfl, rfl, .inl ⟨by decide, by decide⟩, ?_⟩
  refine ⟨_, rfl, d, _, rfl, g2.dr, (by decide), fun t H3 g3 t0 t1 => ?_⟩
  refine ⟨_, _, rfl, rfl, .inl ⟨by decide, by decide⟩, _, _, rfl, rfl, ?_⟩
  refine ⟨fun σ H4 => ∃ gr : Int, 0 ≤ gr ∧ σ = [some (.ref d), some (.int n), some (.int gr)] ∧ Go d H H4, ?_, ?_⟩
  · refine ⟨_, rfl, _, _, rfl, rfl, _, rfl, ?_⟩
    refine ite2 (fun c => ?_) (fun c => ?_)
    · refine ⟨_, rfl, _, _, rfl, rfl, ⟨by decide, by decide, by decide⟩, _, _, rfl, rfl, ?_, ?_⟩
      · left
        constructor <;> omega
      · refine ⟨_, ?_, rfl, (g1.trans g2).trans g3⟩
        have : (0 : Int) ≤ 10 ^ (Int.toNat 15) := by decide
        exact Int.mul_nonneg (by omega) this
    · exact ⟨_, by omega, rfl, (g1.trans g2).trans g3⟩
  · rintro σ H4 ⟨gr, hg, rfl, g4⟩
    refine ⟨_, rfl, _, _, rfl, rfl, _, rfl, d, _, rfl, g4.dr, (by decide), fun u H5 g5 u0 u1 => ?_⟩
    refine ⟨_, _, rfl, rfl, _, rfl, fun z hw hl hp => ?_⟩
    exact q z H5 (g4.trans g5) ⟨hw, hp (by omega), by omega⟩
/-! ### _law_reserved -/
def spReserved : Sp := fun vs H Q _ => vs = [] ∧ ∀ p H', Same H H' → H p = none → H' p = some (.lst (res.map V.str)) → Q (.ref p) H'
theorem ok_law_reserved (T : Txt K mg) : FnOk P w K mg base CX0 1 T.a_law_reserved T.d_law_reserved P_law_reserved spReserved := by
  refine T.F_law_reserved.ok sc_law_reserved (fun vs H Q E h => ?_) (fun cdv A outer s H vs Q E hr h => ?_)
  · obtain ⟨rfl, _⟩ := h
    rfl
  obtain ⟨rfl, q⟩ := h
  refine ⟨_, (pss_cons (ps_set (i := 0) sc_law_reserved.nd rfl (Or.inl rfl) (pe_lst (pa_cons pe_str (pa_cons pe_str (pa_cons pe_str (pa_cons pe_str (pa_cons pe_str (pa_cons pe_str (pa_cons pe_str (pa_cons pe_str (pa_cons pe_str (pa_cons pe_str pa_nil))))))))))))
    (pss_one (ps_ret (pe_op op_cat (pv 0) (pe_lst (pa_cons pe_str (pa_cons pe_str (pa_cons pe_str (pa_cons pe_str (pa_cons pe_str (pa_cons pe_str pa_nil))))))))))), ?_⟩
  refine ⟨(by decide), fun p hp => ?_⟩
  refine ⟨_, rfl, (by decide), fun p2 hp2 => ?_⟩
  have n12 : p ≠ p2 := ne_of_none upd_same hp2
  refine ⟨_, _, _, _, rfl, rfl, (by rw [upd_ne n12]; exact upd_same), upd_same, (by decide), fun p3 hp3 => ?_⟩
  refine q p3 _ ?_ ?_ ?_
  · exact (same_new hp _).trans ((same_new hp2 _).trans (same_new hp3 _))
  · exact ((same_new hp _).trans (same_new hp2 _)).free hp3
  · rw [upd_same]
    rfl
end
end NL

namespace NL
open PySem PySem.Spec PyProof.Rows L2
/-! ### the tree of an expression or a condition -/
inductive It where
  | num (n : Int)
  | name (x : Str)
  | lit (b : Bool)
  | un (w : Str) (a : It)
  | dm (w : Str) (a : It) (n : Int)
  | bin (w : Str) (a b : It)
  | tri (a b c : It)
  | grp (w : Str) (l : List It)
def bstr (b : Bool) : Str := if b then "true" else "false"
/-- the tree stands at v -/
inductive ItemIn (H : Hp) : It → V → Prop where
  | num {n a} : H a = some (.tup [.str "number", .int n]) → ItemIn H (.num n) (.ref a)
  | name {x a} : H a = some (.tup [.str "name", .str x]) → ItemIn H (.name x) (.ref a)
  | lit {b a} : H a = some (.tup [.str (bstr b)]) → ItemIn H (.lit b) (.ref a)
  | un {w i a x} : H a = some (.tup [.str w, x]) → ItemIn H i x → ItemIn H (.un w i) (.ref a)
  | dm {w i n a x} : H a = some (.tup [.str w, x, .int n]) → ItemIn H i x → ItemIn H (.dm w i n) (.ref a)
  | bin {w i j a x y} : H a = some (.tup [.str w, x, y]) → ItemIn H i x → ItemIn H j y → ItemIn H (.bin w i j) (.ref a)
  | tri {i j k a x y z} : H a = some (.tup [.str "if", x, y, z]) → ItemIn H i x → ItemIn H j y → ItemIn H k z → ItemIn H (.tri i j k) (.ref a)
  | grp {w l a b xs} : H a = some (.tup [.str w, .ref b]) → H b = some (.tup xs) → xs.length = l.length → (∀ (k : Nat) i x, l[k]? = some i → xs[k]? = some x → ItemIn H i x) → ItemIn H (.grp w l) (.ref a)
theorem ItemIn.mono {H H' : Hp} (t : Tp H H') {i : It} {v : V} (h : ItemIn H i v) : ItemIn H' i v := by
  induction h with
  | num e => exact .num (t _ _ e)
  | name e => exact .name (t _ _ e)
  | lit e => exact .lit (t _ _ e)
  | un e _ ih => exact .un (t _ _ e) ih
  | dm e _ ih => exact .dm (t _ _ e) ih
  | bin e _ _ ih jh => exact .bin (t _ _ e) ih jh
  | tri e _ _ _ ih jh kh => exact .tri (t _ _ e) ih jh kh
  | grp e f g _ ih => exact .grp (t _ _ e) (t _ _ f) g ih
theorem ItemIn.go {d : Addr} {H H' : Hp} {i : It} {v : V} (h : ItemIn H i v) (g : Go d H H') (hD : Dr H d) : ItemIn H' i v := h.mono (g.tp hD)
theorem ItemIn.ref {H : Hp} {i : It} {v : V} (h : ItemIn H i v) : ∃ a, v = .ref a := by cases h <;> exact ⟨_, rfl⟩
mutual
def It.dep : It → Nat
  | .num _ => 1
  | .name _ => 1
  | .lit _ => 1
  | .un _ a => 1 + a.dep
  | .dm _ a _ => 1 + a.dep
  | .bin _ a b => 1 + max a.dep b.dep
  | .tri a b c => 1 + max a.dep (max b.dep c.dep)
  | .grp _ l => 1 + depL l
def depL : List It → Nat
  | [] => 0
  | a :: r => max a.dep (depL r)
end
mutual
def It.sz : It → Nat
  | .num _ => 1
  | .name _ => 1
  | .lit _ => 1
  | .un _ a => 1 + a.sz
  | .dm _ a _ => 1 + a.sz
  | .bin _ a b => 1 + a.sz + b.sz
  | .tri a b c => 1 + a.sz + b.sz + c.sz
  | .grp _ l => 1 + szL l
def szL : List It → Nat
  | [] => 0
  | a :: r => a.sz + szL r
end
/-- of the right kinds: conditions (true) and expressions (false), over names, ints within B -/
inductive Okx (xs : List Str) (B : Nat) : Bool → It → Prop where
  | num {n} : n.natAbs ≤ B → Okx xs B false (.num n)
  | name {x} : x ∈ xs → Okx xs B false (.name x)
  | lit {b} : Okx xs B true (.lit b)
  | abs {a} : Okx xs B false a → Okx xs B false (.un "abs" a)
  | not {a} : Okx xs B true a → Okx xs B true (.un "not" a)
  | dm {w a n} : w ∈ (["div", "mod"] : List Str) → Okx xs B false a → 1 ≤ n → n.natAbs ≤ B + 1 → Okx xs B false (.dm w a n)
  | bin {w a b} : w ∈ (["add", "sub", "mul", "min", "max"] : List Str) → Okx xs B false a → Okx xs B false b → Okx xs B false (.bin w a b)
  | cmp {w a b} : w ∈ (["less", "equal"] : List Str) → Okx xs B false a → Okx xs B false b → Okx xs B true (.bin w a b)
  | tri {a b c} : Okx xs B true a → Okx xs B false b → Okx xs B false c → Okx xs B false (.tri a b c)
  | grp {w l} : w ∈ (["all", "any"] : List Str) → l.length ≤ 100 → (∀ i ∈ l, Okx xs B true i) → Okx xs B true (.grp w l)
theorem dep_pos : ∀ i : It, 1 ≤ i.dep
  | .num _ => by rw [It.dep]; omega
  | .name _ => by rw [It.dep]; omega
  | .lit _ => by rw [It.dep]; omega
  | .un _ a => by rw [It.dep]; omega
  | .dm _ a _ => by rw [It.dep]; omega
  | .bin _ a b => by rw [It.dep]; omega
  | .tri a b c => by rw [It.dep]; omega
  | .grp _ l => by rw [It.dep]; omega
section
variable {P : Program} {w : World} {K : PySem.W.Frag} {mg : Str → Option Value} {base : Heap}
/-! ### _law_name -/
theorem flat_res : (res.map V.str).all flatV = true := by decide +kernel
theorem flat_strs' (ys : List Str) : (ys.map V.str).all flatV = true := by
  rw [List.all_map]
  exact List.all_eq_true.mpr fun _ _ => rfl
theorem inV_str {x : Str} {ys : List Str} : inV (.str x) (ys.map V.str) = decide (x ∈ ys) := by
  unfold inV
  rw [List.any_map]
  induction ys with
  | nil => rfl
  | cons y r ih =>
    rw [List.any_cons, ih]
    show (eqV (.str y) (.str x) || _) = _
    have e : eqV (.str y) (.str x) = decide (x = y) := by
      show (y == x) = _
      rw [Bool.beq_eq_decide_eq]
      exact decide_eq_decide.mpr ⟨fun h => h.symm, fun h => h.symm⟩
    rw [e]
    by_cases h : x = y
    · rw [decide_eq_true h, decide_eq_true (List.mem_cons.mpr (.inl h)), Bool.true_or]
    · rw [decide_eq_false h, Bool.false_or]
      exact decide_eq_decide.mpr ⟨fun m => List.mem_cons_of_mem _ m, fun m => (List.mem_cons.mp m).resolve_left h⟩
theorem res_wd : ∀ z ∈ res, Wd z ∧ 2 ≤ z.length ∧ z.length ≤ 5 := by decide +kernel
theorem not_x : ∀ z ∈ res, ∀ y ∈ res, y ++ ("x" : Str) ≠ z := by decide +kernel
def spName : Sp := fun vs H Q _ => ∃ d : Addr, vs = [.ref d] ∧ Dr H d ∧ ∀ z H', Go d H H' → Nam z → Q (.str z) H'
theorem wd_cut {z : Str} (h : Wd z) (lo hi : Option Int) : Wd (cutS z lo hi) := fun c hc => by
  refine h c ?_
  unfold cutS at hc
  exact List.mem_of_mem_drop (List.mem_of_mem_take (by simpa using hc))
theorem len_cut1 {z : Str} (h : 2 ≤ z.length) : (cutS z none (some (-1))).length = z.length - 1 := by
  rw [len_list]
  unfold cutS
  rw [HT.sIx_none, show HT.sIx z.length z.length (some (-1)) = z.length - 1 by
    show (if (-1 : Int) < 0 then ((-1 : Int) + (z.length : Int)).toNat else min (-1 : Int).toNat z.length) = z.length - 1
    rw [if_pos (by decide)]
    omega]
  rw [List.toList_toArray, List.length_take, List.length_drop, ← len_list]
  omega
theorem ok_law_name (T : Txt K mg) : FnOk P w K mg base CX0 3 T.a_law_name T.d_law_name P_law_name spName := by
  have G_law_take := ok_law_take (P := P) (w := w) (base := base) T
  have G_law_some_word := ok_law_some_word (P := P) (w := w) (base := base) T
  have G_law_reserved := ok_law_reserved (P := P) (w := w) (base := base) T
  refine T.F_law_name.ok sc_law_name (fun vs H Q E h => ?_) (fun cdv A outer s H vs Q E hr h => ?_)
  · obtain ⟨d, rfl, _⟩ := h
    rfl
  obtain ⟨d, rfl, hD, q⟩ := h
  refine ⟨_, (pss_cons (ps_set (i := 1) sc_law_name.nd rfl (Or.inl rfl) (pe_call0 G_law_reserved (hr.mono (by omega)) (by rfl) T.m_law_reserved T.F_law_reserved.kp T.b_law_reserved .nil pass0))
    (pss_cons (ps_set (i := 2) sc_law_name.nd rfl (Or.inl rfl) (pe_call G_law_some_word (hr.mono (by omega)) (by rfl) T.m_law_some_word T.F_law_some_word.kp T.b_law_some_word .nil pass0 (pa_cons (pv 0) pa_nil)))
    (C8.pss_cut (ps_if (pt_cmpR op_eq (pe_call G_law_take (hr.mono (by omega)) (by rfl) T.m_law_take T.F_law_take.kp T.b_law_take .nil pass0 (pa_cons (pv 0) (pa_cons pe_int pa_nil))) pe_int (nomark _))
    (pss_cons (ps_set (i := 3) sc_law_name.nd rfl (Or.inl rfl) (pe_ix ix_list (pv 1) (pe_call G_law_take (hr.mono (by omega)) (by rfl) T.m_law_take T.F_law_take.kp T.b_law_take .nil pass0 (pa_cons (pv 0) (pa_cons pe_int pa_nil))) (fun _ _ => rfl)))
    (pss_one (ps_set (i := 2) sc_law_name.nd rfl (Or.inl rfl) (pe_ix ix_list (pe_lst (pa_cons (pe_op op_add_str (pv 3) pe_str) (pa_cons (pe_slice sl_str (pv 3) po_none (po_some (pe_un un_neg pe_int))) (pa_cons (pe_op op_add_str pe_str (pv 3)) pa_nil)))) (pe_call G_law_take (hr.mono (by omega)) (by rfl) T.m_law_take T.F_law_take.kp T.b_law_take .nil pass0 (pa_cons (pv 0) (pa_cons pe_int pa_nil))) (fun _ _ => rfl)))))
    pss_nil)
    (pss_cons (ps_if (pt_cmpR op_in_seq (pv 2) (pv 1) (by rfl))
    (pss_one (ps_ret (pe_op op_add_str (pv 2) pe_str)))
    pss_nil)
    (pss_one (ps_ret (pv 2))))))), ?_⟩
  refine ⟨rfl, fun kn H1 s1 n1 e1 => ?_⟩
  have hn : kn ≠ d := by
    rintro rfl
    obtain ⟨ns, hd⟩ := hD
    rw [n1] at hd; cases hd
  have g1 : Go d H H1 := .same hD s1
  have k1 : Keep K d H1 kn (res.map V.str) := .of hn e1
  refine ⟨_, rfl, d, rfl, g1.dr, fun z H2 g2 hz => ?_⟩
  refine ⟨fun σ H4 => ∃ (z : Str) (y : Option V), Nm z ∧ σ = [some (.ref d), some (.ref kn), some (.str z), y] ∧ Go d H1 H4, ?_, ?_⟩
  · refine ⟨_, rfl, d, _, rfl, g2.dr, (by decide), fun r H3 g3 r0 r1 => ?_⟩
    refine ⟨rfl, _, rfl, ?_⟩
    refine ite2 (fun c => ?_) (fun c => ?_)
    · refine ⟨_, rfl, _, rfl, d, _, rfl, g3.dr, (by decide), fun t H4 g4 t0 t1 => ?_⟩
      obtain ⟨nr, h1, h2⟩ := atI_map (f := V.str) (xs := res) t0 t1
      refine ⟨_, _, _, _, rfl, rfl, ((k1.go g2).go (g3.trans g4)).now, h1, ?_⟩
      obtain ⟨w1, w2, w3⟩ := res_wd nr h2
      have ws : Wd ("s" : Str) ∧ ("s" : Str).length = 1 ∧ Wd ("a" : Str) ∧ ("a" : Str).length = 1 := by decide +kernel
      have sz : ∀ n, n ≤ 1000 → n ≤ sizeLine := fun n h => Nat.le_of_lt (small1000 h)
      refine ⟨_, rfl, _, _, rfl, rfl, sz _ (by rw [ws.2.1]; omega), _, rfl, _, rfl, _, rfl, _, rfl, sz _ (by omega), _, rfl, _, _, rfl, rfl, sz _ (by rw [ws.2.2.2]; omega), (Nat.le_of_ble_eq_true rfl), fun p hp => ?_⟩
      have dp := g4.dr
      have g5 := fun o => Go.new (o := o) dp hp
      refine ⟨_, rfl, d, _, rfl, (g5 _).dr, (by decide), fun u H6 g6 u0 u1 => ?_⟩
      have np : p ≠ d := by
        rintro rfl
        obtain ⟨ns, hd⟩ := dp
        rw [hp] at hd; cases hd
      have e6 := g6.fr p _ np upd_same
      have l1 : Nm (nr ++ ("s" : Str)) := ⟨w1.app ws.1, by rw [len_app]; omega, by rw [len_app, ws.2.1]; omega⟩
      have l2 : Nm (cutS nr none (some (-1))) := ⟨wd_cut w1 _ _, by rw [len_cut1 w2]; omega, by rw [len_cut1 w2]; omega⟩
      have l3 : Nm (("a" : Str) ++ nr) := ⟨ws.2.2.1.app w1, by rw [len_app]; omega, by rw [len_app, ws.2.2.2]; omega⟩
      obtain ⟨v, hv, hm⟩ := atI_map (f := V.str) (xs := [nr ++ ("s" : Str), cutS nr none (some (-1)), ("a" : Str) ++ nr]) u0 u1
      refine ⟨_, _, _, _, rfl, rfl, sqd e6, hv, ?_⟩
      refine ⟨v, _, ?_, rfl, g2.trans (g3.trans (g4.trans ((g5 _).trans g6)))⟩
      simp only [List.mem_cons, List.not_mem_nil, or_false] at hm
      rcases hm with rfl | rfl | rfl
      · exact l1
      · exact l2
      · exact l3
    · exact ⟨z, none, hz, rfl, g2.trans g3⟩
  · rintro σ H4 ⟨z, y, hz, rfl, g4⟩
    refine ⟨_, rfl, _, rfl, _, _, rfl, .inl (k1.go g4).now, rfl, flat_res, _, rfl, ?_⟩
    rw [inV_str]
    refine ite2 (fun c => ?_) (fun c => ?_)
    · have hm : z ∈ res := of_decide_eq_true c
      have wx : Wd ("x" : Str) ∧ ("x" : Str).length = 1 := by decide +kernel
      refine ⟨_, rfl, _, _, rfl, rfl, ?_, q _ H4 (g1.trans g4) ⟨hz.wd.app wx.1, ?_, fun h => not_x _ h _ hm rfl⟩⟩
      · rw [wx.2]
        exact Nat.le_of_lt (small1000 (by have := hz.len; omega))
      · rw [len_app, wx.2]
        have := hz.len
        omega
    · have hm : z ∉ res := fun h => c (decide_eq_true h)
      exact ⟨_, rfl, q _ H4 (g1.trans g4) ⟨hz.wd, by have := hz.len; omega, hm⟩⟩
/-! ### _law_names -/
def spNames : Sp := fun vs H Q _ => ∃ (d : Addr) (m : Int), vs = [.ref d, .int m] ∧ Dr H d ∧ 0 ≤ m ∧ m ≤ 100 ∧
  ∀ (n : Addr) (xs : List Str) H', Go d H H' → H n = none → n ≠ d → H' n = some (.lst (xs.map V.str)) → (∀ x ∈ xs, Nam x) → xs.length ≤ m → xs.Nodup → (1 ≤ m → xs ≠ []) → Q (.ref n) H'
theorem ok_law_names (T : Txt K mg) : FnOk P w K mg base CX0 4 T.a_law_names T.d_law_names P_law_names spNames := by
  have G_law_name := ok_law_name (P := P) (w := w) (base := base) T
  refine T.F_law_names.ok sc_law_names (fun vs H Q E h => ?_) (fun cdv A outer s H vs Q E hr h => ?_)
  · obtain ⟨d, m, rfl, _⟩ := h
    rfl
  obtain ⟨d, m, rfl, hD, m0, m1, q⟩ := h
  refine ⟨_, (pss_cons (ps_set (i := 2) sc_law_names.nd rfl (Or.inl rfl) (pe_lst pa_nil))
    (pss_cons (ps_for PassesOwn.never rfl (pi_range1 (by rfl) T.z_range (pa_cons (pv 1) pa_nil)) (pg_name (i := 3) sc_law_names.nd rfl (Or.inl rfl))
    (pss_cons (ps_set (i := 4) sc_law_names.nd rfl (Or.inl rfl) (pe_call G_law_name (hr.mono (by omega)) (by rfl) T.m_law_name T.F_law_name.kp T.b_law_name .nil pass0 (pa_cons (pv 0) pa_nil)))
    (pss_one (ps_if (pt_cmpR op_notIn_seq (pv 4) (pv 2) (by rfl))
    (pss_one (ps_expr (pe_bm PySem.F.plainAttrs_list PySem.F.slot_list_append PySem.F.type_list_append mt_append (pv 2) (pa_cons (pv 4) pa_nil))))
    pss_nil))))
    (pss_one (ps_ret (pv 2))))), ?_⟩
  refine ⟨(by decide), fun n hn => ?_⟩
  have nd : n ≠ d := by
    rintro rfl
    obtain ⟨ns, hd⟩ := hD
    rw [hn] at hd; cases hd
  refine ⟨_, rfl, m, rfl, by omega, by omega, for_range (lo := 0) (n := m.toNat) (fun j σ H' => ∃ (xs : List Str) (y z : Option V), σ = [some (.ref d), some (.int m), some (.ref n), y, z] ∧ Go d H H' ∧ H' n = some (.lst (xs.map V.str)) ∧ (∀ x ∈ xs, Nam x) ∧ xs.length ≤ j ∧ xs.Nodup ∧ (0 < j → xs ≠ [])) ?_ ?_ ?_⟩
  · exact ⟨[], none, none, rfl, .new hD hn, upd_same, (fun x h => by cases h), Nat.le_refl _, List.nodup_nil, fun h => absurd h (by decide)⟩
  · rintro j σ H' hj ⟨xs, y, z, rfl, g, e, hx, hl, hnd, hne⟩
    refine ⟨_, rfl, d, rfl, g.dr, fun nm H2 g2 hnm => ?_⟩
    have e2 := g2.fr n _ nd e
    refine ⟨_, rfl, _, rfl, _, _, rfl, .inl (sqd e2), rfl, flat_strs' xs, _, rfl, ?_⟩
    rw [inV_str]
    refine ite2 (fun c => ?_) (fun c => ?_)
    · have hm : nm ∉ xs := fun h => by
        have c' : (!decide (nm ∈ xs)) = true := c
        rw [decide_eq_true h] at c'
        cases c'
      refine ⟨_, rfl, .inl ⟨rfl, _, sqd e2⟩, _, rfl, n, _, _, rfl, rfl, e2, ?_, ?_⟩
      · rw [List.length_map]
        exact small1000 (by omega)
      · refine ⟨xs ++ [nm], _, _, rfl, ?_, ?_, ?_, ?_, ?_, fun _ => by simp⟩
        · have g3 := g.trans g2
          refine ⟨fun b o hb eb => ?_, ?_⟩
          · rw [upd_ne (ne_of_none eb hn)]
            exact g3.fr b o hb eb
          · obtain ⟨ns, hd⟩ := g3.dr
            exact ⟨ns, by rw [upd_ne nd.symm]; exact hd⟩
        · rw [upd_same, List.map_append]
          rfl
        · intro x h
          rcases List.mem_append.mp h with h | h
          · exact hx x h
          · rw [List.mem_singleton.mp h]
            exact hnm
        · rw [List.length_append, List.length_singleton]
          omega
        · exact List.nodup_append.mpr ⟨hnd, List.nodup_cons.mpr ⟨List.not_mem_nil, List.nodup_nil⟩, fun a ha b hb => by
            rw [List.mem_singleton.mp hb]
            rintro rfl
            exact hm ha⟩
    · refine ⟨xs, _, _, rfl, g.trans g2, e2, hx, by omega, hnd, fun _ h => ?_⟩
      rw [h] at c
      exact c rfl
  · rintro σ H' ⟨xs, y, z, rfl, g, e, hx, hl, hnd, hne⟩
    exact ⟨_, rfl, q n xs H' g hn nd e hx (by omega) hnd fun h => hne (by omega)⟩
/-! ### _law_number -/
def spNumber (B : Nat) : Sp := fun vs H Q _ => ∃ (d : Addr) (c : Int), vs = [.ref d, .int c] ∧ Dr H d ∧ c.natAbs ≤ B ∧ ∀ n H', Go d H H' → n.natAbs ≤ B → Q (.int n) H'
theorem ok_law_number {B : Nat} (hB : 100 ≤ B) (T : Txt K mg) : FnOk P w K mg base CX0 2 T.a_law_number T.d_law_number P_law_number (spNumber B) := by
  have G_law_take := ok_law_take (P := P) (w := w) (base := base) T
  refine T.F_law_number.ok sc_law_number (fun vs H Q E h => ?_) (fun cdv A outer s H vs Q E hr h => ?_)
  · obtain ⟨d, c, rfl, _⟩ := h
    rfl
  obtain ⟨d, c, rfl, hD, hc, q⟩ := h
  refine ⟨_, (pss_one (ps_ret (pe_ix ix_list (pe_lst (pa_cons pe_int (pa_cons pe_int (pa_cons (pe_un un_neg pe_int) (pa_cons (pe_op op_sub (pe_call G_law_take (hr.mono (by omega)) (by rfl) T.m_law_take T.F_law_take.kp T.b_law_take .nil pass0 (pa_cons (pv 0) (pa_cons pe_int pa_nil))) pe_int) (pa_cons (pe_op op_sub (pe_call G_law_take (hr.mono (by omega)) (by rfl) T.m_law_take T.F_law_take.kp T.b_law_take .nil pass0 (pa_cons (pv 0) (pa_cons pe_int pa_nil))) pe_int) (pa_cons (pv 1) pa_nil))))))) (pe_call G_law_take (hr.mono (by omega)) (by rfl) T.m_law_take T.F_law_take.kp T.b_law_take .nil pass0 (pa_cons (pv 0) (pa_cons pe_int pa_nil))) (fun _ _ => rfl)))), ?_⟩
  refine ⟨_, rfl, _, rfl, d, _, rfl, hD, (by decide), fun r1 H1 g1 a0 a1 => ?_⟩
  refine ⟨_, _, rfl, rfl, _, rfl, d, _, rfl, g1.dr, (by decide), fun r2 H2 g2 b0 b1 => ?_⟩
  refine ⟨_, _, rfl, rfl, _, rfl, (Nat.le_of_ble_eq_true rfl), fun p hp => ?_⟩
  have g3 := fun o => Go.new (o := o) g2.dr hp
  refine ⟨_, rfl, d, _, rfl, (g3 _).dr, (by decide), fun u H4 g4 u0 u1 => ?_⟩
  have np : p ≠ d := by
    rintro rfl
    obtain ⟨ns, hd⟩ := g2.dr
    rw [hp] at hd; cases hd
  have e4 := g4.fr p _ np upd_same
  obtain ⟨v, hv, hm⟩ := atI_map (f := V.int) (xs := [0, 1, -1, r1 - 5, r2 - 100, c]) u0 u1
  refine ⟨_, _, _, _, rfl, rfl, sqd e4, hv, q v H4 (g1.trans (g2.trans ((g3 _).trans g4))) ?_⟩
  simp only [List.mem_cons, List.not_mem_nil, or_false] at hm
  omega
/-! ### _law_leaf -/
def spLeaf (K : PySem.W.Frag) (B : Nat) : Sp := fun vs H Q _ => ∃ (d n : Addr) (xs : List Str) (c : Int), vs = [.ref d, .ref n, .int c] ∧ Dr H d ∧ Keep K d H n (xs.map V.str) ∧ c.natAbs ≤ B ∧
  ∀ v i H', Go d H H' → ItemIn H' i v → Okx xs B false i → i.dep = 1 → i.sz = 1 → Q v H'
theorem ok_law_leaf {B : Nat} (hB : 100 ≤ B) (T : Txt K mg) : FnOk P w K mg base CX0 3 T.a_law_leaf T.d_law_leaf P_law_leaf (spLeaf K B) := by
  have G_law_take := ok_law_take (P := P) (w := w) (base := base) T
  have G_law_number := ok_law_number (P := P) (w := w) (base := base) hB T
  refine T.F_law_leaf.ok sc_law_leaf (fun vs H Q E h => ?_) (fun cdv A outer s H vs Q E hr h => ?_)
  · obtain ⟨d, n, xs, c, rfl, _⟩ := h
    rfl
  obtain ⟨d, n, xs, c, rfl, hD, hk, hc, q⟩ := h
  refine ⟨_, (pss_cons (ps_if (PW.pt (pw_or (pt_cmpR op_eq (pe_callB call_len_seq (by rfl) T.z_len PySem.boot_len (pa_cons (pv 1) pa_nil)) pe_int (nomark _)) (pw_or1 (pt_cmpR op_lt (pe_call G_law_take (hr.mono (by omega)) (by rfl) T.m_law_take T.F_law_take.kp T.b_law_take .nil pass0 (pa_cons (pv 0) (pa_cons pe_int pa_nil))) pe_int (nomark _)))))
    (pss_one (ps_ret (pe_tup (pa_cons pe_str (pa_cons (pe_call G_law_number (hr.mono (by omega)) (by rfl) T.m_law_number T.F_law_number.kp T.b_law_number .nil pass0 (pa_cons (pv 0) (pa_cons (pv 2) pa_nil))) pa_nil)))))
    pss_nil)
    (pss_one (ps_ret (pe_tup (pa_cons pe_str (pa_cons (pe_ix ix_list (pv 1) (pe_call G_law_take (hr.mono (by omega)) (by rfl) T.m_law_take T.F_law_take.kp T.b_law_take .nil pass0 (pa_cons (pv 0) (pa_cons (pe_callB call_len_seq (by rfl) T.z_len PySem.boot_len (pa_cons (pv 1) pa_nil)) pa_nil))) (fun _ _ => rfl)) pa_nil)))))), ?_⟩
  have one : ∀ H1, Go d H H1 → tRet (tTup (tCons (tC (.str "number")) (tCons (tCall (spNumber B) [] E0 (tCons (tVar 0) (tCons (tVar 2) tNil))) tNil))) { nx := fun _ H' => Q .non H', rt := Q } [some (.ref d), some (.ref n), some (.int c)] H1 := fun H1 g1 => by
    refine ⟨_, rfl, _, rfl, d, c, rfl, g1.dr, hc, fun m H2 g2 hm => ⟨(Nat.le_of_ble_eq_true rfl), fun p hp => ?_⟩⟩
    exact q _ _ _ (g1.trans (g2.trans (.new g2.dr hp))) (.num upd_same) (.num hm) (by rw [It.dep]) (by rw [It.sz])
  refine ⟨_, rfl, _, _, rfl, .inl hk.now, rfl, _, rfl, ?_⟩
  refine ite2 (fun c0 => ?_) (fun c0 => ?_)
  · exact one H (Go.refl hD)
  · have hl := int_ne c0
    rw [List.length_map] at hl
    refine ⟨_, rfl, d, _, rfl, hD, (by decide), fun r H1 g1 r0 r1 => ?_⟩
    refine ⟨_, _, rfl, rfl, _, rfl, ?_⟩
    refine ite2 (fun c1 => ?_) (fun c1 => ?_)
    · exact one H1 g1
    · refine ⟨_, rfl, _, rfl, _, rfl, _, _, rfl, .inl (hk.go g1).now, d, _, rfl, g1.dr, by rw [List.length_map]; omega, fun u H2 g2 u0 u1 => ?_⟩
      rw [List.length_map] at u1
      obtain ⟨v, hv, hm⟩ := atI_map (f := V.str) u0 u1
      refine ⟨_, _, _, _, rfl, rfl, ((hk.go g1).go g2).now, hv, (Nat.le_of_ble_eq_true rfl), fun p hp => ?_⟩
      exact q _ _ _ (g1.trans (g2.trans (.new g2.dr hp))) (.name upd_same) (.name hm) (by rw [It.dep]) (by rw [It.sz])
end
end NL

namespace NL
open PySem PySem.Spec PyProof.Rows L2
theorem yes_if {σ : L2.St} {H : Hp} {a n : Hp → Prop} (h : a H) : tYes σ H (fun b H3 => if b = true then a H3 else n H3) := by
  show (if true = true then a H else n H)
  rw [if_pos rfl]
  exact h
/-- one reading for two ways -/
theorem cutP {B C : Prop} (f : B → C) (b : B) : C := f b
/-! ### _law_expression, _law_test: both by one induction over the depth -/
def eT : Nat → Nat × Nat
  | 0 => (1, 3)
  | n + 1 => (1 + 2 * (eT n).1 + (eT n).2, 1 + 2 * (1 + 2 * (eT n).1 + (eT n).2) + 5 * (eT n).2)
theorem eT_pos (n : Nat) : 1 ≤ (eT n).1 := by
  cases n with
  | zero => decide
  | succ n => show 1 ≤ 1 + 2 * (eT n).1 + (eT n).2; omega
theorem eT_bin (n : Nat) : 1 + 2 * (eT n).1 ≤ (eT n).2 := by
  cases n with
  | zero => decide
  | succ n => show 1 + 2 * (1 + 2 * (eT n).1 + (eT n).2) ≤ 1 + 2 * (1 + 2 * (eT n).1 + (eT n).2) + 5 * (eT n).2; omega
theorem new_ne {d p : Addr} {H : Hp} (h : Dr H d) (hp : H p = none) : p ≠ d := by
  rintro rfl
  obtain ⟨ns, e⟩ := h
  rw [hp] at e; cases e
/-- a new list that was made while d is drawn, read behind more draws -/
theorem Go.at {d p : Addr} {H H' : Hp} {o : HO} (h : Dr H d) (hp : H p = none) (g : Go d (upd H p o) H') : H' p = some o := g.fr p o (new_ne h hp) upd_same
def spE (K : PySem.W.Frag) (B : Nat) : Nat → Sp
  | 0 => fun _ _ _ _ => False
  | n + 1 => fun vs H Q _ => ∃ (d nm : Addr) (xs : List Str) (c δ : Int), vs = [.ref d, .ref nm, .int c, .int δ] ∧ Dr H d ∧ Keep K d H nm (xs.map V.str) ∧ c.natAbs ≤ B ∧ δ ≤ n ∧
    ∀ v i H', Go d H H' → ItemIn H' i v → Okx xs B false i → i.dep ≤ 2 * n + 1 → i.sz ≤ (eT n).1 → Q v H'
def spT (K : PySem.W.Frag) (B : Nat) : Nat → Sp
  | 0 => fun _ _ _ _ => False
  | n + 1 => fun vs H Q _ => ∃ (d nm : Addr) (xs : List Str) (c δ : Int), vs = [.ref d, .ref nm, .int c, .int δ] ∧ Dr H d ∧ Keep K d H nm (xs.map V.str) ∧ c.natAbs ≤ B ∧ δ ≤ n ∧
    ∀ v i H', Go d H H' → ItemIn H' i v → Okx xs B true i → i.dep ≤ 2 * n + 2 → i.sz ≤ (eT n).2 → Q v H'
theorem szL_le {m : Nat} : ∀ (l : List It), (∀ i ∈ l, i.sz ≤ m) → szL l ≤ l.length * m
  | [], _ => by rw [szL]; omega
  | a :: r, h => by
    rw [szL, List.length_cons, Nat.succ_mul]
    have h1 := h a List.mem_cons_self
    have h2 := szL_le r fun i hi => h i (List.mem_cons_of_mem _ hi)
    omega
theorem depL_le {m : Nat} : ∀ (l : List It), (∀ i ∈ l, i.dep ≤ m) → depL l ≤ m
  | [], _ => by rw [depL]; omega
  | a :: r, h => by
    rw [depL]
    have h1 := h a List.mem_cons_self
    have h2 := depL_le r fun i hi => h i (List.mem_cons_of_mem _ hi)
    omega
section
variable {P : Program} {w : World} {K : PySem.W.Frag} {mg : Str → Option Value} {base : Heap}
theorem ok_E {B n : Nat} (hB : 100 ≤ B) (T : Txt K mg) (G_law_expression : FnOk P w K mg base CX0 (3 + 2 * n) T.a_law_expression T.d_law_expression P_law_expression (spE K B n))
    (G_law_test : FnOk P w K mg base CX0 (4 + 2 * n) T.a_law_test T.d_law_test P_law_test (spT K B n)) :
    FnOk P w K mg base CX0 (4 + 2 * n + 1) T.a_law_expression T.d_law_expression P_law_expression (spE K B (n + 1)) := by
  have G_law_take := ok_law_take (P := P) (w := w) (base := base) T
  have G_law_leaf := ok_law_leaf (P := P) (w := w) (base := base) hB T
  refine T.F_law_expression.ok sc_law_expression (fun vs H Q E h => ?_) (fun cdv A outer s H vs Q E hr h => ?_)
  · obtain ⟨d, nm, xs, c, δ, rfl, _⟩ := h
    rfl
  obtain ⟨d, nm, xs, c, δ, rfl, hD, hk, hc, hδ, q⟩ := h
  refine ⟨_, (pss_cons (ps_set (i := 4) sc_law_expression.nd rfl (Or.inl rfl) (pe_call G_law_take (hr.mono (by omega)) (by rfl) T.m_law_take T.F_law_take.kp T.b_law_take .nil pass0 (pa_cons (pv 0) (pa_cons pe_int pa_nil))))
    (pss_cons (ps_if (PW.pt (pw_or (pt_cmpR op_lt (pv 3) pe_int (nomark _)) (pw_or1 (pt_cmpR op_lt (pv 4) pe_int (nomark _)))))
    (pss_one (ps_ret (pe_call G_law_leaf (hr.mono (by omega)) (by rfl) T.m_law_leaf T.F_law_leaf.kp T.b_law_leaf .nil pass0 (pa_cons (pv 0) (pa_cons (pv 1) (pa_cons (pv 2) pa_nil))))))
    pss_nil)
    (pss_cons (ps_set (i := 5) sc_law_expression.nd rfl (Or.inl rfl) (pe_call G_law_expression (hr.mono (by omega)) (by rfl) T.m_law_expression T.F_law_expression.kp T.b_law_expression .nil pass0 (pa_cons (pv 0) (pa_cons (pv 1) (pa_cons (pv 2) (pa_cons (pe_op op_sub (pv 3) pe_int) pa_nil))))))
    (pss_cons (ps_if (pt_cmpR op_eq (pv 4) pe_int (nomark _))
    (pss_one (ps_ret (pe_tup (pa_cons pe_str (pa_cons (pv 5) pa_nil)))))
    pss_nil)
    (pss_cons (ps_if (pt_cmpR op_lt (pv 4) pe_int (nomark _))
    (pss_one (ps_ret (pe_tup (pa_cons (pe_ix ix_list (pe_lst (pa_cons pe_str (pa_cons pe_str pa_nil))) (pe_op op_sub (pv 4) pe_int) (fun _ _ => rfl)) (pa_cons (pv 5) (pa_cons (pe_op op_add pe_int (pe_ix ix_list (pe_lst (pa_cons pe_int (pa_cons (pe_call G_law_take (hr.mono (by omega)) (by rfl) T.m_law_take T.F_law_take.kp T.b_law_take .nil pass0 (pa_cons (pv 0) (pa_cons pe_int pa_nil))) (pa_cons (pe_callB (call_abs) (by rfl) T.z_abs (by decide +kernel) (pa_cons (pv 2) pa_nil)) pa_nil)))) (pe_call G_law_take (hr.mono (by omega)) (by rfl) T.m_law_take T.F_law_take.kp T.b_law_take .nil pass0 (pa_cons (pv 0) (pa_cons pe_int pa_nil))) (fun _ _ => rfl))) pa_nil))))))
    pss_nil)
    (pss_cons (ps_set (i := 6) sc_law_expression.nd rfl (Or.inl rfl) (pe_call G_law_expression (hr.mono (by omega)) (by rfl) T.m_law_expression T.F_law_expression.kp T.b_law_expression .nil pass0 (pa_cons (pv 0) (pa_cons (pv 1) (pa_cons (pv 2) (pa_cons (pe_op op_sub (pv 3) pe_int) pa_nil))))))
    (pss_cons (ps_if (pt_cmpR op_eq (pv 4) pe_int (nomark _))
    (pss_one (ps_ret (pe_tup (pa_cons pe_str (pa_cons (pe_call G_law_test (hr.mono (by omega)) (by rfl) T.m_law_test T.F_law_test.kp T.b_law_test .nil pass0 (pa_cons (pv 0) (pa_cons (pv 1) (pa_cons (pv 2) (pa_cons (pe_op op_sub (pv 3) pe_int) pa_nil))))) (pa_cons (pv 5) (pa_cons (pv 6) pa_nil)))))))
    pss_nil)
    (pss_one (ps_ret (pe_tup (pa_cons (pe_ix ix_list (pe_lst (pa_cons pe_str (pa_cons pe_str (pa_cons pe_str (pa_cons pe_str (pa_cons pe_str pa_nil)))))) (pe_op op_sub (pv 4) pe_int) (fun _ _ => rfl)) (pa_cons (pv 5) (pa_cons (pv 6) pa_nil))))))))))))), ?_⟩
  refine ⟨_, rfl, d, _, rfl, hD, (by decide), fun kd H1 g1 k0 k1 => ?_⟩
  have leaf : tRet (tCall (spLeaf K B) [] E0 (tCons (tVar 0) (tCons (tVar 1) (tCons (tVar 2) tNil)))) { nx := fun _ H' => Q .non H', rt := Q } [some (.ref d), some (.ref nm), some (.int c), some (.int δ), some (.int kd), none, none] H1 := by
    refine ⟨_, rfl, _, rfl, _, rfl, d, nm, xs, c, rfl, g1.dr, hk.go g1, hc, fun v i H2 g2 hi ho hd hs => ?_⟩
    exact q v i H2 (g1.trans g2) hi ho (by omega) (by have := eT_pos n; omega)
  refine ⟨_, rfl, _, _, rfl, rfl, _, rfl, ?_⟩
  refine ite2 (fun c1 => iteT leaf) (fun c1 => ?_)
  refine ⟨_, rfl, _, _, rfl, rfl, _, rfl, ?_⟩
  refine ite2 (fun c2 => leaf) (fun c2 => ?_)
  have d1 : ¬ δ < 1 := fun h => c1 (decide_eq_true h)
  have k3 : ¬ kd < 3 := fun h => c2 (decide_eq_true h)
  cases n with
  | zero => exact absurd hδ (by omega)
  | succ n =>
  have eE : (eT (n + 1)).1 = 1 + 2 * (eT n).1 + (eT n).2 := rfl
  -- one
  refine ⟨_, rfl, _, rfl, _, rfl, _, rfl, _, _, rfl, rfl, d, nm, xs, c, δ - 1, rfl, g1.dr, hk.go g1, hc, by omega, fun v1 i1 H2 g2 hi1 ho1 hd1 hs1 => ?_⟩
  refine ⟨_, rfl, rfl, _, rfl, ?_⟩
  refine ite2 (fun c3 => ?_) (fun c3 => ?_)
  · refine ⟨_, rfl, (Nat.le_of_ble_eq_true rfl), fun p hp => ?_⟩
    have gn := fun o => Go.new (o := o) g2.dr hp
    exact q _ _ _ (g1.trans (g2.trans (gn _))) (.un upd_same (hi1.go (gn _) g2.dr)) (.abs ho1) (by rw [It.dep]; omega) (by rw [It.sz]; omega)
  have k4 : kd ≠ 3 := int_ne c3
  refine ⟨_, rfl, _, _, rfl, rfl, _, rfl, ?_⟩
  refine ite2 (fun c4 => ?_) (fun c4 => ?_)
  · have k5 : kd < 6 := of_decide_eq_true c4
    refine ⟨(Nat.le_of_ble_eq_true rfl), fun p hp => ?_⟩
    have gp := fun o => Go.new (o := o) g2.dr hp
    obtain ⟨wd, hw, hm⟩ := atI_map (f := V.str) (xs := ["div", "mod"]) (i := kd - 4) (by omega) (by show kd - 4 < 2; omega)
    refine ⟨_, rfl, _, _, rfl, rfl, _, _, _, _, rfl, rfl, sqd upd_same, hw, ?_⟩
    refine ⟨_, rfl, _, rfl, d, _, rfl, (gp _).dr, (by decide), fun r H3 g3 r0 r1 => ?_⟩
    refine ⟨_, rfl, _, rfl, (Nat.le_of_ble_eq_true rfl), fun p2 hp2 => ?_⟩
    have gp2 := fun o => Go.new (o := o) g3.dr hp2
    refine ⟨_, rfl, d, _, rfl, (gp2 _).dr, (by decide), fun u H4 g4 u0 u1 => ?_⟩
    obtain ⟨n1, hn1, hm1⟩ := atI_map (f := V.int) (xs := [0, r, if c < 0 then -c else c]) u0 u1
    refine ⟨_, _, _, _, rfl, rfl, sqd (g4.at g3.dr hp2), hn1, _, _, rfl, rfl, (Nat.le_of_ble_eq_true rfl), fun p3 hp3 => ?_⟩
    have gp3 := fun o => Go.new (o := o) g4.dr hp3
    have gg := fun o => (gp _).trans (g3.trans ((gp2 _).trans (g4.trans (gp3 o))))
    have hb : 0 ≤ n1 ∧ n1.natAbs ≤ B := by
      simp only [List.mem_cons, List.not_mem_nil, or_false] at hm1
      rcases hm1 with h | h | h
      · omega
      · omega
      · split at h <;> omega
    exact q _ _ _ (g1.trans (g2.trans (gg _))) (.dm upd_same (hi1.go (gg _) g2.dr)) (.dm hm ho1 (by omega) (by omega)) (by rw [It.dep]; omega) (by rw [It.sz]; omega)
  have k6 : ¬ kd < 6 := fun h => c4 (decide_eq_true h)
  -- two
  refine ⟨_, rfl, _, rfl, _, rfl, _, rfl, _, _, rfl, rfl, d, nm, xs, c, δ - 1, rfl, g2.dr, (hk.go g1).go g2, hc, by omega, fun v2 i2 H3 g3 hi2 ho2 hd2 hs2 => ?_⟩
  refine ⟨_, rfl, rfl, _, rfl, ?_⟩
  refine ite2 (fun c5 => ?_) (fun c5 => ?_)
  · refine ⟨_, rfl, _, rfl, _, rfl, _, rfl, _, _, rfl, rfl, d, nm, xs, c, δ - 1, rfl, g3.dr, ((hk.go g1).go g2).go g3, hc, by omega, fun v3 i3 H4 g4 hi3 ho3 hd3 hs3 => ?_⟩
    refine ⟨_, rfl, _, rfl, (Nat.le_of_ble_eq_true rfl), fun p hp => ?_⟩
    have gp := fun o => Go.new (o := o) g4.dr hp
    exact q _ _ _ (g1.trans (g2.trans (g3.trans (g4.trans (gp _))))) (.tri upd_same (hi3.go (gp _) g4.dr) (hi1.go (g3.trans (g4.trans (gp _))) g2.dr) (hi2.go (g4.trans (gp _)) g3.dr)) (.tri ho3 ho1 ho2) (by rw [It.dep]; omega) (by rw [It.sz]; omega)
  have k7 : kd ≠ 6 := int_ne c5
  refine ⟨(Nat.le_of_ble_eq_true rfl), fun p hp => ?_⟩
  have gp := fun o => Go.new (o := o) g3.dr hp
  obtain ⟨wd, hw, hm⟩ := atI_map (f := V.str) (xs := ["add", "sub", "mul", "min", "max"]) (i := kd - 7) (by omega) (by show kd - 7 < 5; omega)
  refine ⟨_, rfl, _, _, rfl, rfl, _, _, _, _, rfl, rfl, sqd upd_same, hw, _, rfl, _, rfl, (Nat.le_of_ble_eq_true rfl), fun p2 hp2 => ?_⟩
  have gp2 := fun o => Go.new (o := o) (gp _).dr hp2
  have gg := fun o => (gp _).trans (gp2 o)
  exact q _ _ _ (g1.trans (g2.trans (g3.trans (gg _)))) (.bin upd_same (hi1.go (g3.trans (gg _)) g2.dr) (hi2.go (gg _) g3.dr)) (.bin hm ho1 ho2) (by rw [It.dep]; omega) (by rw [It.sz]; omega)
theorem ok_T {B n : Nat} (hB : 100 ≤ B) (T : Txt K mg) (G_law_expression : FnOk P w K mg base CX0 (4 + 2 * n + 1) T.a_law_expression T.d_law_expression P_law_expression (spE K B (n + 1)))
    (G_law_test : FnOk P w K mg base CX0 (4 + 2 * n) T.a_law_test T.d_law_test P_law_test (spT K B n)) :
    FnOk P w K mg base CX0 (5 + 2 * n + 1) T.a_law_test T.d_law_test P_law_test (spT K B (n + 1)) := by
  have G_law_take := ok_law_take (P := P) (w := w) (base := base) T
  refine T.F_law_test.ok sc_law_test (fun vs H Q E h => ?_) (fun cdv A outer s H vs Q E hr h => ?_)
  · obtain ⟨d, nm, xs, c, δ, rfl, _⟩ := h
    rfl
  obtain ⟨d, nm, xs, c, δ, rfl, hD, hk, hc, hδ, q⟩ := h
  have eB := eT_bin n
  refine ⟨_, (pss_cons (ps_set (i := 4) sc_law_test.nd rfl (Or.inl rfl) (pe_call G_law_take (hr.mono (by omega)) (by rfl) T.m_law_take T.F_law_take.kp T.b_law_take .nil pass0 (pa_cons (pv 0) (pa_cons pe_int pa_nil))))
    (pss_cons (ps_if (pt_cmpR op_lt (pv 4) pe_int (nomark _))
    (pss_one (ps_ret (pe_ix ix_list (pe_lst (pa_cons (pe_tup (pa_cons pe_str pa_nil)) (pa_cons (pe_tup (pa_cons pe_str pa_nil)) pa_nil))) (pv 4) (fun _ _ => rfl))))
    pss_nil)
    (pss_cons (ps_if (PW.pt (pw_or (pt_cmpR op_lt (pv 3) pe_int (nomark _)) (pw_or1 (pt_cmpR op_lt (pv 4) pe_int (nomark _)))))
    (pss_cons (ps_set (i := 5) sc_law_test.nd rfl (Or.inl rfl) (pe_call G_law_expression (hr.mono (by omega)) (by rfl) T.m_law_expression T.F_law_expression.kp T.b_law_expression .nil pass0 (pa_cons (pv 0) (pa_cons (pv 1) (pa_cons (pv 2) (pa_cons (pe_op op_sub (pv 3) pe_int) pa_nil))))))
    (pss_one (ps_ret (pe_tup (pa_cons (pe_ix ix_list (pe_lst (pa_cons pe_str (pa_cons pe_str pa_nil))) (pe_op op_mod (pv 4) pe_int) (fun _ _ => rfl)) (pa_cons (pv 5) (pa_cons (pe_call G_law_expression (hr.mono (by omega)) (by rfl) T.m_law_expression T.F_law_expression.kp T.b_law_expression .nil pass0 (pa_cons (pv 0) (pa_cons (pv 1) (pa_cons (pv 2) (pa_cons (pe_op op_sub (pv 3) pe_int) pa_nil))))) pa_nil)))))))
    pss_nil)
    (pss_cons (ps_if (pt_cmpR op_eq (pv 4) pe_int (nomark _))
    (pss_one (ps_ret (pe_tup (pa_cons pe_str (pa_cons (pe_call G_law_test (hr.mono (by omega)) (by rfl) T.m_law_test T.F_law_test.kp T.b_law_test .nil pass0 (pa_cons (pv 0) (pa_cons (pv 1) (pa_cons (pv 2) (pa_cons (pe_op op_sub (pv 3) pe_int) pa_nil))))) pa_nil)))))
    pss_nil)
    (pss_cons (ps_set (i := 6) sc_law_test.nd rfl (Or.inl rfl) (pe_ix ix_list (pe_lst (pa_cons pe_int (pa_cons pe_int (pa_cons pe_int (pa_cons pe_int (pa_cons pe_int (pa_cons pe_int pa_nil))))))) (pe_call G_law_take (hr.mono (by omega)) (by rfl) T.m_law_take T.F_law_take.kp T.b_law_take .nil pass0 (pa_cons (pv 0) (pa_cons pe_int pa_nil))) (fun _ _ => rfl)))
    (pss_one (ps_ret (pe_tup (pa_cons (pe_ix ix_list (pe_lst (pa_cons pe_str (pa_cons pe_str (pa_cons pe_str pa_nil)))) (pe_op op_sub (pv 4) pe_int) (fun _ _ => rfl)) (pa_cons (pe_callTy call_tuple_of (by rfl) T.z_tuple (by decide +kernel) (pa_cons (pe_lc (own := [("k", 7)]) (g := (gName 7)) (tt := tYes) rfl sc_law_test.nd (pi_range1 (by rfl) T.z_range (pa_cons (pv 6) pa_nil)) (blkOk_by (N := N_law_test) (sc := defScope s_law_test) (by decide +kernel)) (fun _ _ _ _ _ => (pg_name (i := 7) sc_law_test.nd rfl (Or.inl rfl))) (fun _ _ _ _ _ => pts_nil) (fun _ _ _ _ _ => (pe_call G_law_test (hr.mono (by omega)) (by rfl) T.m_law_test T.F_law_test.kp T.b_law_test .nil pass0 (pa_cons (pv 0) (pa_cons (pv 1) (pa_cons (pv 2) (pa_cons (pe_op op_sub (pv 3) pe_int) pa_nil))))))) pa_nil)) pa_nil)))))))))), ?_⟩
  refine ⟨_, rfl, d, _, rfl, hD, (by decide), fun kd H1 g1 k0 k1 => ?_⟩
  refine ⟨_, rfl, _, _, rfl, rfl, _, rfl, ?_⟩
  refine ite2 (fun c1 => ?_) (fun c1 => ?_)
  · have k2 : kd < 2 := of_decide_eq_true c1
    refine ⟨(Nat.le_of_ble_eq_true rfl), fun p hp => ⟨(Nat.le_of_ble_eq_true rfl), fun p2 hp2 => ⟨(Nat.le_of_ble_eq_true rfl), fun p3 hp3 => ?_⟩⟩⟩
    have n12 : p ≠ p2 := ne_of_none upd_same hp2
    have n13 : p ≠ p3 := ne_of_none (by rw [upd_ne n12]; exact upd_same) hp3
    have n23 : p2 ≠ p3 := ne_of_none upd_same hp3
    obtain ⟨v, hv, hm⟩ := atI_mem (xs := [V.ref p, V.ref p2]) (i := kd) k0 (by show kd < 2; exact k2)
    have g2 := fun o => Go.new (o := o) g1.dr hp
    have g3 := fun o => Go.new (o := o) (g2 _).dr hp2
    have g4 := fun o => Go.new (o := o) (g3 _).dr hp3
    refine ⟨_, rfl, _, _, _, _, rfl, rfl, sqd upd_same, hv, ?_⟩
    simp only [List.mem_cons, List.not_mem_nil, or_false] at hm
    have gg := fun o => g1.trans ((g2 _).trans ((g3 _).trans (g4 o)))
    rcases hm with rfl | rfl
    · exact q _ (.lit true) _ (gg _) (.lit (by rw [upd_ne n13, upd_ne n12]; exact upd_same)) .lit (by rw [It.dep]; omega) (by rw [It.sz]; omega)
    · exact q _ (.lit false) _ (gg _) (.lit (by rw [upd_ne n23]; exact upd_same)) .lit (by rw [It.dep]; omega) (by rw [It.sz]; omega)
  have k2 : ¬ kd < 2 := fun h => c1 (decide_eq_true h)
  -- less, equal
  refine ⟨_, rfl, _, _, rfl, rfl, _, rfl, ?_⟩
  refine' cutP ?f ?b
  case f =>
    intro body
    refine ite2 (fun c2 => iteT body) (fun c2 => ?_)
    refine ⟨_, rfl, _, _, rfl, rfl, _, rfl, ?_⟩
    refine ite2 (fun c3 => body) (fun c3 => ?_)
    have d1 : ¬ δ < 1 := fun h => c2 (decide_eq_true h)
    have k6 : ¬ kd < 6 := fun h => c3 (decide_eq_true h)
    cases n with
    | zero => exact absurd hδ (by omega)
    | succ n =>
    have eE : (eT (n + 1)).2 = 1 + 2 * (1 + 2 * (eT n).1 + (eT n).2) + 5 * (eT n).2 := rfl
    -- not
    refine ⟨_, rfl, rfl, _, rfl, ?_⟩
    refine ite2 (fun c4 => ?_) (fun c4 => ?_)
    · refine ⟨_, rfl, _, rfl, _, rfl, _, rfl, _, _, rfl, rfl, d, nm, xs, c, δ - 1, rfl, g1.dr, hk.go g1, hc, by omega, fun v1 i1 H2 g2 hi1 ho1 hd1 hs1 => ?_⟩
      refine ⟨(Nat.le_of_ble_eq_true rfl), fun p hp => ?_⟩
      have gp := fun o => Go.new (o := o) g2.dr hp
      exact q _ _ _ (g1.trans (g2.trans (gp _))) (.un upd_same (hi1.go (gp _) g2.dr)) (.not ho1) (by rw [It.dep]; omega) (by rw [It.sz]; omega)
    have k7 : kd ≠ 6 := int_ne c4
    -- many
    refine ⟨(Nat.le_of_ble_eq_true rfl), fun p hp => ?_⟩
    have gp := fun o => Go.new (o := o) g1.dr hp
    refine ⟨_, rfl, d, _, rfl, (gp _).dr, (by decide), fun u H2 g2 u0 u1 => ?_⟩
    obtain ⟨m, hmv, hmm⟩ := atI_map (f := V.int) (xs := [0, 1, 2, 3, 2, 5]) u0 u1
    have hm5 : 0 ≤ m ∧ m ≤ 5 := by
      simp only [List.mem_cons, List.not_mem_nil, or_false] at hmm
      omega
    have g12 := g1.trans ((gp _).trans g2)
    refine ⟨_, _, _, _, rfl, rfl, sqd (g2.at g1.dr hp), hmv, (Nat.le_of_ble_eq_true rfl), fun p2 hp2 => ?_⟩
    have gp2 := fun o => Go.new (o := o) g2.dr hp2
    obtain ⟨wd, hw, hmw⟩ := atI_map (f := V.str) (xs := ["all", "any", "all"]) (i := kd - 7) (by omega) (by show kd - 7 < 3; omega)
    refine ⟨_, rfl, _, _, rfl, rfl, _, _, _, _, rfl, rfl, sqd upd_same, hw, _, rfl, m, rfl, by omega, by omega, fun D hD => ?_⟩
    have gD := fun o => Go.new (o := o) (gp2 _).dr hD
    refine lc_range (lo := 0) (n := m.toNat) (fun (j : Nat) (H' : Hp) => ∃ (l : List It) (vs : List V), vs.length = j ∧ l.length = j ∧ Go d (upd H2 p2 (.lst [.str "all", .str "any", .str "all"])) H' ∧ H' D = some (.lst vs) ∧ (∀ (k : Nat) i x, l[k]? = some i → vs[k]? = some x → ItemIn H' i x) ∧ (∀ i ∈ l, Okx xs B true i ∧ i.dep ≤ 2 * n + 2 ∧ i.sz ≤ (eT n).2)) ?_ ?_ ?_
    · exact ⟨[], [], rfl, rfl, gD _, upd_same, fun k i x h => by simp at h, fun i h => by cases h⟩
    · rintro j H' hj ⟨l, vs, hl1, hl2, g, e, hin, hok⟩
      refine ⟨rfl, ?_⟩
      refine yes_if ?_
      refine ⟨_, rfl, _, rfl, _, rfl, _, rfl, _, _, rfl, rfl, d, nm, xs, c, δ - 2, rfl, g.dr, (hk.go g12).go ((gp2 _).trans g), hc, by omega, fun v1 i1 H4 g4 hi1 ho1 hd1 hs1 => ?_⟩
      have nD : D ≠ d := new_ne (gp2 _).dr hD
      have e4 := g4.fr D _ nD e
      have t4 : Tp H4 (upd H4 D (.lst (vs ++ [v1]))) := fun a ys ea => by
        rw [upd_ne]
        · exact ea
        · rintro rfl
          rw [e4] at ea; cases ea
      refine ⟨vs, e4, small1000 (by omega), l ++ [i1], vs ++ [v1], ?_, ?_, ?_, upd_same, ?_, ?_⟩
      · rw [List.length_append, hl1] <;> rfl
      · rw [List.length_append, hl2] <;> rfl
      · have g5 := g.trans g4
        refine ⟨fun b o hb eb => ?_, ?_⟩
        · rw [upd_ne (ne_of_none eb hD)]
          exact g5.fr b o hb eb
        · obtain ⟨ns, h⟩ := g5.dr
          exact ⟨ns, by rw [upd_ne nD.symm]; exact h⟩
      · intro k i x h1 h2
        by_cases hk2 : k < j
        · rw [List.getElem?_append_left (by omega)] at h1 h2
          exact ((hin k i x h1 h2).go g4 g.dr).mono t4
        · have hk3 : k = j := by
            have := (List.getElem?_eq_some_iff.mp h1).1
            rw [List.length_append, hl2] at this
            have : [i1].length = 1 := rfl
            omega
          subst hk3
          rw [List.getElem?_append_right (by omega), hl2, Nat.sub_self] at h1
          rw [List.getElem?_append_right (by omega), hl1, Nat.sub_self] at h2
          obtain rfl : i1 = i := Option.some.inj h1
          obtain rfl : v1 = x := Option.some.inj h2
          exact hi1.mono t4
      · intro i hi
        rcases List.mem_append.mp hi with h | h
        · exact hok i h
        · rw [List.mem_singleton.mp h]
          exact ⟨ho1, hd1, hs1⟩
    · rintro H' ⟨l, vs, hl1, hl2, g, e, hin, hok⟩
      refine ⟨D, vs, rfl, .inl ⟨sqd e, fun tp htp => ?_⟩⟩
      have gt := fun o => Go.new (o := o) g.dr htp
      refine ⟨(Nat.le_of_ble_eq_true rfl), fun rp hrp => ?_⟩
      have gr := fun o => Go.new (o := o) (gt _).dr hrp
      have nt : tp ≠ rp := ne_of_none upd_same hrp
      have hz : szL l ≤ 5 * (eT n).2 := by
        have := szL_le l (fun i hi => (hok i hi).2.2)
        have h5 : l.length ≤ 5 := by omega
        exact Nat.le_trans this (Nat.mul_le_mul_right _ h5)
      have hd : depL l ≤ 2 * n + 2 := depL_le l (fun i hi => (hok i hi).2.1)
      refine q _ (.grp wd l) _ (g12.trans ((gp2 _).trans (g.trans ((gt _).trans (gr _))))) (.grp upd_same (by rw [upd_ne nt]; exact upd_same) (by omega) ?_) (.grp ?_ (by omega) fun i hi => (hok i hi).1) (by rw [It.dep]; omega) (by rw [It.sz]; omega)
      · intro k i x h1 h2
        exact (hin k i x h1 h2).go ((gt _).trans (gr _)) g.dr
      · simp only [List.mem_cons, List.not_mem_nil, or_false] at hmw ⊢
        rcases hmw with h | h | h
        · exact .inl h
        · exact .inr h
        · exact .inl h
  case b =>
    refine ⟨_, rfl, _, rfl, _, rfl, _, rfl, _, _, rfl, rfl, d, nm, xs, c, δ - 1, rfl, g1.dr, hk.go g1, hc, by omega, fun v1 i1 H2 g2 hi1 ho1 hd1 hs1 => ?_⟩
    refine ⟨(Nat.le_of_ble_eq_true rfl), fun p hp => ?_⟩
    have gp := fun o => Go.new (o := o) g2.dr hp
    have b1 := Int.emod_nonneg kd (by decide : (2 : Int) ≠ 0)
    have b2 := Int.emod_lt_of_pos kd (by decide : (0 : Int) < 2)
    obtain ⟨wd, hw, hm⟩ := atI_map (f := V.str) (xs := ["less", "equal"]) (i := kd % 2) b1 (by show kd % 2 < 2; exact b2)
    refine ⟨_, rfl, _, _, rfl, rfl, (by show (0 : Int) < 2; decide), _, _, _, _, rfl, rfl, sqd upd_same, hw, _, rfl, _, rfl, _, rfl, _, rfl, _, rfl, _, _, rfl, rfl, d, nm, xs, c, δ - 1, rfl, (gp _).dr, ((hk.go g1).go g2).go (gp _), hc, by omega, fun v2 i2 H3 g3 hi2 ho2 hd2 hs2 => ?_⟩
    refine ⟨(Nat.le_of_ble_eq_true rfl), fun p2 hp2 => ?_⟩
    have gp2 := fun o => Go.new (o := o) g3.dr hp2
    exact q _ _ _ (g1.trans (g2.trans ((gp _).trans (g3.trans (gp2 _))))) (.bin upd_same (hi1.go ((gp _).trans (g3.trans (gp2 _))) g2.dr) (hi2.go (gp2 _) g3.dr)) (.cmp hm ho1 ho2) (by rw [It.dep]; omega) (by rw [It.sz]; omega)
theorem ok_ET {B : Nat} (hB : 100 ≤ B) (T : Txt K mg) : ∀ n : Nat,
    FnOk P w K mg base CX0 (3 + 2 * n) T.a_law_expression T.d_law_expression P_law_expression (spE K B n) ∧ FnOk P w K mg base CX0 (4 + 2 * n) T.a_law_test T.d_law_test P_law_test (spT K B n)
  | 0 => ⟨⟨fun _ _ _ _ h => h.elim, fun _ _ _ _ _ _ _ _ _ _ _ _ _ h => h.elim⟩, ⟨fun _ _ _ _ h => h.elim, fun _ _ _ _ _ _ _ _ _ _ _ _ _ h => h.elim⟩⟩
  | n + 1 => by
    obtain ⟨ge, gt⟩ := ok_ET hB T n
    have h1 := ok_E hB T ge gt
    have h2 := ok_T hB T h1 gt
    exact ⟨h1.mono (by omega), h2.mono (by omega)⟩
end
end NL

namespace NL
open PySem PySem.Spec PyProof.Rows L2
theorem ixN_in {n : Nat} {k : Int} (h0 : 0 ≤ k) (h1 : k < n) : ixN n k = some k.toNat := by
  unfold ixN
  rw [if_pos h0, if_pos h1]
/-- a change at what was not there before -/
theorem same_put {H H' : Hp} {p : Addr} {o : HO} (s : Same H H') (hp : H p = none) : Same H (upd H' p o) := fun b u e => by
  rw [upd_ne (ne_of_none e hp)]
  exact s b u e
section
variable {P : Program} {w : World} {K : PySem.W.Frag} {mg : Str → Option Value} {base : Heap}
def spDraws (K : PySem.W.Frag) : Sp := fun vs H Q _ => ∃ (a : Addr) (ns : List Int) (m : Int), vs = [.ref a, .int m] ∧ SqL K H a (ns.map V.int) ∧ ns.length ≤ 63 ∧ 0 ≤ m ∧ m ≤ 1000 ∧
  ∀ d H', Same H H' → H d = none → Dr H' d → Q (.ref d) H'
theorem ok_law_draws (T : Txt K mg) : FnOk P w K mg base CX0 1 T.a_law_draws T.d_law_draws P_law_draws (spDraws K) := by
  refine T.F_law_draws.ok sc_law_draws (fun vs H Q E h => ?_) (fun cdv A outer s H vs Q E hr h => ?_)
  · obtain ⟨a, ns, m, rfl, _⟩ := h
    rfl
  obtain ⟨a, ns, m, rfl, hS, hl, m0, m1, q⟩ := h
  refine ⟨_, (pss_cons (ps_setLc (i := 2) (own := [("cell", 3)]) (g := (gName 3)) (tt := tYes) rfl sc_law_draws.nd rfl rfl (sw_true rfl rfl rfl (by decide +kernel)) (pi_list (pv 0)) (blkOk_by (N := N_law_draws) (sc := defScope s_law_draws) (by decide +kernel)) (fun _ _ _ _ _ => (pg_name (i := 3) sc_law_draws.nd rfl (Or.inl rfl))) (fun _ _ _ _ _ => pts_nil) (fun _ _ _ _ _ => (pe_callTy call_int1 (by rfl) T.z_int (by decide +kernel) (pa_cons (pv 3) pa_nil))))
    (C8.pss_cut (ps_if (pt_cmpR op_eq (pe_callB call_len_seq (by rfl) T.z_len PySem.boot_len (pa_cons (pv 2) pa_nil)) pe_int (nomark _))
    (pss_one (ps_expr (pe_bm PySem.F.plainAttrs_list PySem.F.slot_list_append PySem.F.type_list_append mt_append (pv 2) (pa_cons pe_int pa_nil))))
    pss_nil)
    (pss_cons (ps_set (i := 4) sc_law_draws.nd rfl (Or.inl rfl) (pe_callTy call_list_of (by rfl) T.z_list (by decide +kernel) (pa_cons (pv 2) pa_nil)))
    (pss_cons (ps_set (i := 5) sc_law_draws.nd rfl (Or.inl rfl) (pe_lst pa_nil))
    (pss_cons (ps_for PassesOwn.never rfl (pi_range1 (by rfl) T.z_range (pa_cons (pv 1) pa_nil)) (pg_name (i := 6) sc_law_draws.nd rfl (Or.inl rfl))
    (pss_cons (ps_set (i := 7) sc_law_draws.nd rfl (Or.inl rfl) (pe_op op_mod (pv 6) (pe_callB call_len_seq (by rfl) T.z_len PySem.boot_len (pa_cons (pv 2) pa_nil))))
    (pss_one (ps_if (pt_cmpR op_ge (pe_ix ix_list (pv 2) (pv 7) (fun _ _ => rfl)) (pe_op op_pow pe_int pe_int) (nomark _))
    (pss_cons (ps_expr (pe_bm PySem.F.plainAttrs_list PySem.F.slot_list_append PySem.F.type_list_append mt_append (pv 5) (pa_cons (pe_op op_mod (pe_callTy call_int1 (by rfl) T.z_int (by decide +kernel) (pa_cons (pe_ix ix_list (pv 4) (pv 7) (fun _ _ => rfl)) pa_nil)) pe_int) pa_nil)))
    (pss_one (ps_asg (pe_op op_fdiv (pe_ix ix_list (pv 4) (pv 7) (fun _ _ => rfl)) pe_int) (pg_sub (pv 4) (pv 7) set_list))))
    (pss_cons (ps_set (i := 8) sc_law_draws.nd rfl (Or.inl rfl) (pe_op op_mod (pe_callTy call_int1 (by rfl) T.z_int (by decide +kernel) (pa_cons (pe_op op_add (pe_op op_add (pe_op op_mul (pe_ix ix_list (pv 2) (pv 7) (fun _ _ => rfl)) pe_int) (pe_op op_mul (pv 6) pe_int)) pe_int) pa_nil)) pe_int))
    (pss_one (ps_expr (pe_bm PySem.F.plainAttrs_list PySem.F.slot_list_append PySem.F.type_list_append mt_append (pv 5) (pa_cons (pe_op op_mod (pe_callTy call_int1 (by rfl) T.z_int (by decide +kernel) (pa_cons (pe_op op_add (pe_op op_add (pe_op op_mul (pv 8) (pv 8)) (pe_op op_mul pe_int (pv 8))) (pv 6)) pa_nil)) pe_int) pa_nil)))))))))
    (pss_cons (ps_expr (pe_bm0 PySem.F.plainAttrs_list PySem.F.slot_list_reverse PySem.F.type_list_reverse mt_reverse (pv 5)))
    (pss_one (ps_ret (pv 5))))))))), ?_⟩
  -- cells
  refine ⟨_, rfl, a, rfl, ⟨_, hS⟩, fun c hc => ?_⟩
  refine lc_list (K := K) (a := a) (xs := ns.map V.int) (fun (j : Nat) (H' : Hp) => Same H H' ∧ H' c = some (.lst ((ns.take j).map V.int))) ?_ ?_ ?_ ?_
  · exact ⟨same_new hc _, by rw [upd_same, List.take_zero]; rfl⟩
  · rintro i H' _ ⟨s1, _⟩
    exact s1.seq hS
  · rintro i x H' hx ⟨s1, e1⟩
    rw [List.getElem?_map] at hx
    cases hn : ns[i]? with
    | none => rw [hn] at hx; cases hx
    | some n =>
      rw [hn] at hx
      obtain rfl : V.int n = x := Option.some.inj hx
      refine ⟨rfl, yes_if ?_⟩
      refine ⟨_, rfl, .inl ⟨n, rfl, _, e1, ?_, same_put s1 hc, ?_⟩⟩
      · rw [List.length_map, List.length_take]
        exact small1000 (by omega)
      · rw [upd_same, List.take_add_one, hn, List.map_append]
        rfl
  · rintro H1 ⟨s1, e1⟩
    rw [List.length_map, List.take_length] at e1
    -- at least one cell
    refine ⟨fun σ H2 => ∃ cs : List Int, cs ≠ [] ∧ cs.length ≤ 63 ∧ σ = [some (.ref a), some (.int m), some (.ref c), none, none, none, none, none, none] ∧ Same H H2 ∧ H2 c = some (.lst (cs.map V.int)), ?_, ?_⟩
    · refine ⟨_, rfl, _, _, rfl, .inl (sqd e1), rfl, _, rfl, ?_⟩
      refine ite2 (fun z => ?_) (fun z => ?_)
      · refine ⟨_, rfl, .inl ⟨rfl, _, sqd e1⟩, c, _, _, rfl, rfl, e1, ?_, ?_⟩
        · rw [List.length_map]
          exact small1000 (by omega)
        · have hz := int_eq z
          rw [List.length_map] at hz
          have : ns = [] := List.length_eq_zero_iff.mp (by omega)
          subst this
          exact ⟨[0], by simp, by decide, rfl, same_put s1 hc, upd_same⟩
      · have hz := int_ne z
        rw [List.length_map] at hz
        refine ⟨ns, ?_, hl, rfl, s1, e1⟩
        rintro rfl
        exact hz rfl
    · rintro σ H2 ⟨cs, hcs, hcl, rfl, s2, e2⟩
      have hpos : 0 < cs.length := List.length_pos_iff.mpr hcs
      -- rest, draws
      refine ⟨_, rfl, _, _, rfl, .inl (sqd e2), fun r hr2 => ?_⟩
      have ncr : c ≠ r := ne_of_none e2 hr2
      refine ⟨(Nat.le_of_ble_eq_true rfl), fun d hd => ?_⟩
      have ncd : c ≠ d := ne_of_none (by rw [upd_ne ncr]; exact e2) hd
      have nrd : r ≠ d := ne_of_none upd_same hd
      have hHr : H r = none := s2.free hr2
      have hHd : H d = none := (s2.trans (same_new hr2 _)).free hd
      refine ⟨_, rfl, m, rfl, by omega, by omega, for_range (lo := 0) (n := m.toNat) (fun (j : Nat) (σ : L2.St) (H' : Hp) => ∃ (rs ds : List Int) (y1 y2 y3 : Option V), σ = [some (.ref a), some (.int m), some (.ref c), none, some (.ref r), some (.ref d), y1, y2, y3] ∧ Same H H' ∧ H' c = some (.lst (cs.map V.int)) ∧ H' r = some (.lst (rs.map V.int)) ∧ rs.length = cs.length ∧ H' d = some (.lst (ds.map V.int)) ∧ ds.length ≤ j) ?_ ?_ ?_⟩
      · refine ⟨cs, [], none, none, none, rfl, (s2.trans (same_new hr2 _)).trans (same_new hd _), ?_, ?_, rfl, upd_same, Nat.le_refl _⟩
        · rw [upd_ne ncd, upd_ne ncr]; exact e2
        · rw [upd_ne nrd]; exact upd_same
      · rintro j σ H' hj ⟨rs, ds, y1, y2, y3, rfl, s3, ec, er, hrl, ed, hdl⟩
        have b0 := Int.emod_nonneg ((0 : Int) + (j : Int)) (show (((cs.map V.int).length : Nat) : Int) ≠ 0 by rw [List.length_map]; omega)
        have b1 : (((0 : Int) + (j : Int)) % (((cs.map V.int).length : Nat) : Int)) < (cs.length : Int) := by
          have h := Int.emod_lt_of_pos ((0 : Int) + (j : Int)) (show 0 < (((cs.map V.int).length : Nat) : Int) by rw [List.length_map]; omega)
          rw [List.length_map] at h ⊢
          exact h
        refine ⟨_, rfl, _, rfl, _, _, rfl, .inl (sqd ec), _, _, rfl, rfl, (by show 0 < (((cs.map V.int).length : Nat) : Int); rw [List.length_map]; omega), ?_⟩
        obtain ⟨cv, hcv, _⟩ := atI_map (f := V.int) (xs := cs) b0 b1
        obtain ⟨rv, hrv, _⟩ := atI_map (f := V.int) (xs := rs) b0 (by omega)
        refine ⟨_, rfl, _, rfl, _, _, _, _, rfl, rfl, sqd ec, hcv, _, _, rfl, rfl, ⟨by decide, by decide, by decide⟩, _, _, rfl, rfl, _, rfl, ?_⟩
        refine ite2 (fun z => ?_) (fun z => ?_)
        · refine ⟨_, rfl, .inl ⟨rfl, _, sqd ed⟩, _, rfl, _, rfl, _, _, _, _, rfl, rfl, sqd er, hrv, .inl ⟨_, rfl, _, _, rfl, rfl, (by show (0 : Int) < 1000; decide), d, _, _, rfl, rfl, ed, ?_, ?_⟩⟩
          · rw [List.length_map]
            exact small1000 (by omega)
          · have er2 : ∀ o, (upd H' d o) r = some (.lst (rs.map V.int)) := fun o => by rw [upd_ne nrd]; exact er
            refine ⟨_, rfl, _, rfl, _, _, _, _, rfl, rfl, sqd (er2 _), hrv, _, _, rfl, rfl, ⟨by decide, by decide⟩, _, rfl, _, rfl, r, _, _, _, rfl, rfl, er2 _, ixN_in b0 (by have h : (rs.map V.int).length = rs.length := List.length_map _; omega), ?_⟩
            refine ⟨rs.set (((0 : Int) + (j : Int)) % (((cs.map V.int).length : Nat) : Int)).toNat (rv / 1000), ds ++ [rv % 1000], _, _, _, rfl, same_put (same_put s3 hHd) hHr, ?_, ?_, ?_, ?_, ?_⟩
            · rw [upd_ne ncr, upd_ne ncd]; exact ec
            · rw [upd_same, List.map_set]
            · rw [List.length_set]; exact hrl
            · rw [upd_ne nrd.symm, upd_same, List.map_append]; rfl
            · rw [List.length_append, List.length_singleton]; omega
        · have o0 := fun z : Int => Int.emod_nonneg z (by decide : (2147483647 : Int) ≠ 0)
          have o1 := fun z : Int => Int.emod_lt_of_pos z (by decide : (0 : Int) < 2147483647)
          refine ⟨_, rfl, _, rfl, _, _, _, _, rfl, rfl, sqd ec, hcv, _, _, rfl, rfl, .inr ⟨by decide, by decide⟩, _, rfl, _, _, rfl, rfl, .inr ⟨by decide, by decide⟩, _, _, rfl, rfl, _, _, rfl, rfl, .inl ⟨_, rfl, _, _, rfl, rfl, (by show (0 : Int) < 2147483647; decide), ?_⟩⟩
          refine ⟨_, rfl, .inl ⟨rfl, _, sqd ed⟩, _, rfl, _, rfl, _, _, rfl, rfl, ?_, ?_⟩
          · left
            have h1 := o0 (cv * 48271 + (0 + (j : Int)) * 69621 + 11)
            have h2 := o1 (cv * 48271 + (0 + (j : Int)) * 69621 + 11)
            constructor
            · show -(2 ^ 64) < _
              omega
            · show _ < 2 ^ 64
              omega
          · refine ⟨_, rfl, _, _, rfl, rfl, .inl ⟨by decide, by decide⟩, _, _, rfl, rfl, _, rfl, _, _, rfl, rfl, .inl ⟨_, rfl, _, _, rfl, rfl, (by show (0 : Int) < 1000003; decide), d, _, _, rfl, rfl, ed, ?_, ?_⟩⟩
            · rw [List.length_map]
              exact small1000 (by omega)
            · refine ⟨rs, ds ++ [(((cv * 48271 + (0 + (j : Int)) * 69621 + 11) % 2147483647) * ((cv * 48271 + (0 + (j : Int)) * 69621 + 11) % 2147483647) + 3 * ((cv * 48271 + (0 + (j : Int)) * 69621 + 11) % 2147483647) + (0 + (j : Int))) % 1000003], _, _, _, rfl, same_put s3 hHd, ?_, ?_, hrl, ?_, ?_⟩
              · rw [upd_ne ncd]; exact ec
              · rw [upd_ne nrd]; exact er
              · rw [upd_same, List.map_append]; rfl
              · rw [List.length_append, List.length_singleton]; omega
      · rintro σ H' ⟨rs, ds, y1, y2, y3, rfl, s3, ec, er, hrl, ed, hdl⟩
        refine ⟨_, rfl, .inl ⟨rfl, _, sqd ed⟩, d, _, rfl, rfl, ed, ?_⟩
        refine ⟨_, rfl, q d _ (same_put s3 hHd) hHd ⟨ds.reverse, ?_⟩⟩
        rw [upd_same, List.map_reverse]
end
end NL

namespace NL
open PySem PySem.Spec PyProof.Rows L2
/-! ### what stands in an item: its tuple -/
def It.kids : It → List It
  | .num _ => []
  | .name _ => []
  | .lit _ => []
  | .un _ a => [a]
  | .dm _ a _ => [a]
  | .bin _ a b => [a, b]
  | .tri a b c => [a, b, c]
  | .grp _ l => l
def It.word : It → Str
  | .num _ => "number"
  | .name _ => "name"
  | .lit b => bstr b
  | .un w _ => w
  | .dm w _ _ => w
  | .bin w _ _ => w
  | .tri _ _ _ => "if"
  | .grp w _ => w
/-- the items stand at the values, one by one -/
def Kids (H : Hp) (l : List It) (xs : List V) : Prop := xs.length = l.length ∧ ∀ (k : Nat) i x, l[k]? = some i → xs[k]? = some x → ItemIn H i x
theorem Kids.mono {H H' : Hp} (t : Tp H H') {l : List It} {xs : List V} (h : Kids H l xs) : Kids H' l xs := ⟨h.1, fun k i x a b => (h.2 k i x a b).mono t⟩
theorem kids1 {H : Hp} {i : It} {x : V} (h : ItemIn H i x) : Kids H [i] [x] := ⟨rfl, fun k j y a b => by
  cases k with
  | zero => cases Option.some.inj a; cases Option.some.inj b; exact h
  | succ k => simp at a⟩
theorem Kids.cons {H : Hp} {i : It} {x : V} {l : List It} {xs : List V} (h : ItemIn H i x) (g : Kids H l xs) : Kids H (i :: l) (x :: xs) := ⟨by rw [List.length_cons, List.length_cons, g.1], fun k j y a b => by
  cases k with
  | zero => cases Option.some.inj a; cases Option.some.inj b; exact h
  | succ k => exact g.2 k j y (by simpa using a) (by simpa using b)⟩
theorem kids0 {H : Hp} : Kids H [] [] := ⟨rfl, fun k j y a b => by simp at a⟩
theorem Kids.get {H : Hp} {l : List It} {xs : List V} (h : Kids H l xs) {k : Nat} {x : V} (e : xs[k]? = some x) : ∃ i, l[k]? = some i ∧ ItemIn H i x ∧ i ∈ l := by
  have hk : k < xs.length := (List.getElem?_eq_some_iff.mp e).1
  rw [h.1] at hk
  exact ⟨l[k], List.getElem?_eq_getElem hk, h.2 k _ x (List.getElem?_eq_getElem hk) e, List.getElem_mem hk⟩
/-- an item's first part is its word -/
theorem ItemIn.head {H : Hp} {i : It} {a : Addr} (h : ItemIn H i (.ref a)) : ∃ r, H a = some (.tup (.str i.word :: r)) := by
  cases h <;> exact ⟨_, by assumption⟩
/-- the conditions' words are not the expressions' -/
def tests : List Str := ["true", "false", "less", "equal", "not", "all", "any"]
def wl (x : Str) (ys : List Str) : Bool := decide (x ∈ ys)
theorem word_test {xs : List Str} {B : Nat} {b : Bool} {i : It} (h : Okx xs B b i) : wl i.word tests = b := by
  cases h with
  | num _ => simp only [It.word]; decide +kernel
  | name _ => simp only [It.word]; decide +kernel
  | lit => rename_i b; cases b <;> (simp only [It.word]; decide +kernel)
  | abs _ => simp only [It.word]; decide +kernel
  | not _ => simp only [It.word]; decide +kernel
  | dm hw _ _ _ =>
    simp only [List.mem_cons, List.not_mem_nil, or_false] at hw
    rcases hw with rfl | rfl <;> (simp only [It.word]; decide +kernel)
  | bin hw _ _ =>
    simp only [List.mem_cons, List.not_mem_nil, or_false] at hw
    rcases hw with rfl | rfl | rfl | rfl | rfl <;> (simp only [It.word]; decide +kernel)
  | cmp hw _ _ =>
    simp only [List.mem_cons, List.not_mem_nil, or_false] at hw
    rcases hw with rfl | rfl <;> (simp only [It.word]; decide +kernel)
  | tri _ _ _ => simp only [It.word]; decide +kernel
  | grp hw _ _ =>
    simp only [List.mem_cons, List.not_mem_nil, or_false] at hw
    rcases hw with rfl | rfl <;> (simp only [It.word]; decide +kernel)
/-- 0: a leaf, 1: all and any, 2: div and mod, 3: the others -/
def It.cls : It → Nat
  | .num _ => 0
  | .name _ => 0
  | .lit _ => 0
  | .grp _ _ => 1
  | .dm _ _ _ => 2
  | _ => 3
theorem word_cls {xs : List Str} {B : Nat} {b : Bool} {i : It} (h : Okx xs B b i) :
    wl i.word ["number", "name", "true", "false"] = (i.cls == 0) ∧ wl i.word ["number", "name"] = (i.cls == 0 && !b) ∧ wl i.word ["true", "false"] = (i.cls == 0 && b) ∧
    wl i.word ["all", "any"] = (i.cls == 1) ∧ wl i.word ["div", "mod"] = (i.cls == 2) := by
  cases h with
  | num _ => simp only [It.word, It.cls]; decide +kernel
  | name _ => simp only [It.word, It.cls]; decide +kernel
  | lit => rename_i b; cases b <;> (simp only [It.word, It.cls]; decide +kernel)
  | abs _ => simp only [It.word, It.cls]; decide +kernel
  | not _ => simp only [It.word, It.cls]; decide +kernel
  | dm hw _ _ _ =>
    simp only [List.mem_cons, List.not_mem_nil, or_false] at hw
    rcases hw with rfl | rfl <;> (simp only [It.word, It.cls]; decide +kernel)
  | bin hw _ _ =>
    simp only [List.mem_cons, List.not_mem_nil, or_false] at hw
    rcases hw with rfl | rfl | rfl | rfl | rfl <;> (simp only [It.word, It.cls]; decide +kernel)
  | cmp hw _ _ =>
    simp only [List.mem_cons, List.not_mem_nil, or_false] at hw
    rcases hw with rfl | rfl <;> (simp only [It.word, It.cls]; decide +kernel)
  | tri _ _ _ => simp only [It.word, It.cls]; decide +kernel
  | grp hw _ _ =>
    simp only [List.mem_cons, List.not_mem_nil, or_false] at hw
    rcases hw with rfl | rfl <;> (simp only [It.word, It.cls]; decide +kernel)
/-- x in [a, b, ..], (a, b, ..): texts, the answer known -/
theorem inT {x : Str} {ys : List Str} {zs : List V} {b : Bool} (hz : zs = ys.map V.str) (h : wl x ys = b) : (if false = true then !inV (V.str x) zs else inV (V.str x) zs) = b := by
  rw [if_neg Bool.false_ne_true, hz, inV_str]; exact h
theorem ifT {c : Bool} {A B : Prop} (h : c = true) (a : A) : if c = true then A else B := by
  rw [if_pos h]; exact a
theorem ifF {c : Bool} {A B : Prop} (h : c = false) (b : B) : if c = true then A else B := by
  rw [if_neg (by rw [h]; exact Bool.false_ne_true)]; exact b
theorem blE {Q : VK} {b b' : Bool} {H : Hp} (h : b = b') (q : Q (.bl b') H) : Q (.bl b) H := by rw [h]; exact q
theorem flatW (ys : List Str) (zs : List V) (hz : zs = ys.map V.str) : zs.all flatV = true := by rw [hz]; exact flat_strs' ys
theorem atI0 {α : Type} {x : α} {r : List α} : atI (x :: r) 0 = some x := atI_nat (j := 0) rfl
theorem atI1 {α : Type} {x y : α} {r : List α} : atI (x :: y :: r) 1 = some y := atI_nat (j := 1) rfl
theorem atI2 {α : Type} {x y z : α} {r : List α} : atI (x :: y :: z :: r) 2 = some z := atI_nat (j := 2) rfl
/-- behind the first -/
theorem cut_tail (x : V) (r : List V) : cutV (x :: r) (some 1) none = r := by
  unfold cutV
  rw [show HT.sIx (x :: r).length 0 (some 1) = min 1 (x :: r).length from HT.sIx_nat (x :: r).length 0 1, HT.sIx_none]
  rw [show min 1 (x :: r).length = 1 by rw [List.length_cons]; omega]
  show List.take ((x :: r).length - 1) r = r
  rw [List.length_cons, Nat.add_sub_cancel]
  exact List.take_length
theorem not_whole (x : V) (r : List V) (hi : Option Int) : ¬ (HT.sIx (x :: r).length 0 (some 1) = 0 ∧ HT.sIx (x :: r).length (x :: r).length hi = (x :: r).length) := by
  rintro ⟨h, _⟩
  rw [show HT.sIx (x :: r).length 0 (some 1) = min 1 (x :: r).length from HT.sIx_nat (x :: r).length 0 1, List.length_cons] at h
  omega
/-- the parts of an item that is no leaf, no group and no div: behind its word -/
theorem ItemIn.rest {H : Hp} {i : It} {a : Addr} (h : ItemIn H i (.ref a)) (h3 : i.cls = 3) : ∃ r, H a = some (.tup (.str i.word :: r)) ∧ Kids H i.kids r := by
  cases h with
  | num _ => cases h3
  | name _ => cases h3
  | lit _ => cases h3
  | un e g => exact ⟨_, e, kids1 g⟩
  | dm _ _ => cases h3
  | bin e g k => exact ⟨_, e, .cons g (kids1 k)⟩
  | tri e g k l => exact ⟨_, e, .cons g (.cons k (kids1 l))⟩
  | grp _ _ _ _ => cases h3
theorem ItemIn.group {H : Hp} {i : It} {a : Addr} (h : ItemIn H i (.ref a)) (h3 : i.cls = 1) : ∃ b xs, H a = some (.tup [.str i.word, .ref b]) ∧ H b = some (.tup xs) ∧ Kids H i.kids xs := by
  cases h with
  | grp e f g k => exact ⟨_, _, e, f, g, k⟩
  | num _ => cases h3
  | name _ => cases h3
  | lit _ => cases h3
  | un e g => cases h3
  | dm _ _ => cases h3
  | bin e g k => cases h3
  | tri e g k l => cases h3
theorem ItemIn.divs {H : Hp} {i : It} {a : Addr} (h : ItemIn H i (.ref a)) (h3 : i.cls = 2) : ∃ x j n, H a = some (.tup [.str i.word, x, .int n]) ∧ ItemIn H j x ∧ i = .dm i.word j n := by
  cases h with
  | dm e g => exact ⟨_, _, _, e, g, rfl⟩
  | grp e f g k => cases h3
  | num _ => cases h3
  | name _ => cases h3
  | lit _ => cases h3
  | un e g => cases h3
  | bin e g k => cases h3
  | tri e g k l => cases h3
theorem cls_le (i : It) : i.cls = 0 ∨ i.cls = 1 ∨ i.cls = 2 ∨ i.cls = 3 := by cases i <;> simp [It.cls]
theorem kids_leaf {i : It} (h : i.cls = 0) : i.kids = [] := by cases i <;> first | rfl | cases h
theorem Kids.snoc {H : Hp} {l : List It} {vs : List V} {i : It} {v : V} (h : Kids H l vs) (hi : ItemIn H i v) : Kids H (l ++ [i]) (vs ++ [v]) := by
  obtain ⟨hl, hin⟩ := h
  refine ⟨by rw [List.length_append, List.length_append, hl] <;> rfl, fun k j x h1 h2 => ?_⟩
  by_cases hk : k < l.length
  · rw [List.getElem?_append_left (by omega)] at h1 h2
    exact hin k j x h1 h2
  · have hk3 : k = l.length := by
      have := (List.getElem?_eq_some_iff.mp h1).1
      rw [List.length_append, List.length_singleton] at this
      omega
    subst hk3
    rw [List.getElem?_append_right (by omega), Nat.sub_self] at h1
    rw [List.getElem?_append_right (by omega), hl, Nat.sub_self] at h2
    obtain rfl : i = j := Option.some.inj h1
    obtain rfl : v = x := Option.some.inj h2
    exact hi
theorem tp_put {H : Hp} {p : Addr} {xs : List V} {o : HO} (e : H p = some (.lst xs)) : Tp H (upd H p o) := fun a ys ea => by
  rw [upd_ne]
  · exact ea
  · rintro rfl
    rw [e] at ea; cases ea
theorem Kids.ok {H : Hp} {l : List It} {vs : List V} (h : Kids H l vs) {w : Str} {a b : Addr} (ha : H a = some (.tup [.str w, .ref b])) (hb : H b = some (.tup vs)) : ItemIn H (.grp w l) (.ref a) := .grp ha hb h.1 h.2
/-- a change at what was not there before keeps what is drawn -/
theorem Go.put2 {d p : Addr} {H H' : Hp} {o : HO} (g : Go d H H') (hp : H p = none) (n : p ≠ d) : Go d H (upd H' p o) := ⟨fun b u hb e => by
  rw [upd_ne (ne_of_none e hp)]
  exact g.fr b u hb e, by
  obtain ⟨ns, e⟩ := g.dr
  exact ⟨ns, by rw [upd_ne n.symm]; exact e⟩⟩
section
variable {P : Program} {w : World} {K : PySem.W.Frag} {mg : Str → Option Value} {base : Heap}
/-! ### _law_is_test -/
def spIsTest : Sp := fun vs H Q _ => ∃ (v : V) (i : It) (xs : List Str) (B : Nat) (b : Bool), vs = [v] ∧ ItemIn H i v ∧ Okx xs B b i ∧ ∀ H', Same H H' → Q (.bl b) H'
theorem ok_law_is_test (T : Txt K mg) : FnOk P w K mg base CX0 1 T.a_law_is_test T.d_law_is_test P_law_is_test spIsTest := by
  refine T.F_law_is_test.ok sc_law_is_test (fun vs H Q E h => ?_) (fun cdv A outer s H vs Q E hr h => ?_)
  · obtain ⟨v, i, xs, B, b, rfl, _⟩ := h
    rfl
  obtain ⟨v, i, xs, B, b, rfl, hi, ho, q⟩ := h
  obtain ⟨a, rfl⟩ := hi.ref
  obtain ⟨r, ha⟩ := hi.head
  refine ⟨_, (pss_one (ps_ret (pe_cmpR op_in_seq (pe_ix ix_tup (pv 0) pe_int (fun _ _ => rfl)) (pe_lst (pa_cons pe_str (pa_cons pe_str (pa_cons pe_str (pa_cons pe_str (pa_cons pe_str (pa_cons pe_str (pa_cons pe_str pa_nil)))))))) (by rfl)))), ?_⟩
  refine ⟨_, rfl, a, _, 0, _, rfl, rfl, sqt ha, atI0, (Nat.le_of_ble_eq_true rfl), fun p hp => ?_⟩
  refine ⟨p, _, rfl, .inl (sqd upd_same), rfl, by decide +kernel, ?_⟩
  exact blE (inT (ys := tests) rfl (word_test ho)) (q _ (same_new hp _))
/-! ### _law_inner: the parts as a new list -/
def spInner : Sp := fun vs H Q _ => ∃ (v : V) (i : It) (xs : List Str) (B : Nat) (b : Bool), vs = [v] ∧ ItemIn H i v ∧ Okx xs B b i ∧ ∀ p ys H', Same H H' → H p = none → H' p = some (.lst ys) → Kids H' i.kids ys → Q (.ref p) H'
theorem ok_law_inner (T : Txt K mg) : FnOk P w K mg base CX0 1 T.a_law_inner T.d_law_inner P_law_inner spInner := by
  refine T.F_law_inner.ok sc_law_inner (fun vs H Q E h => ?_) (fun cdv A outer s H vs Q E hr h => ?_)
  · obtain ⟨v, i, xs, B, b, rfl, _⟩ := h
    rfl
  obtain ⟨v, i, xs, B, b, rfl, hi, ho, q⟩ := h
  obtain ⟨a, rfl⟩ := hi.ref
  obtain ⟨r, ha⟩ := hi.head
  obtain ⟨c0, _, _, c1, c2⟩ := word_cls ho
  refine ⟨_, (pss_cons (ps_if (pt_cmpR op_in_seq (pe_ix ix_tup (pv 0) pe_int (fun _ _ => rfl)) (pe_lst (pa_cons pe_str (pa_cons pe_str (pa_cons pe_str (pa_cons pe_str pa_nil))))) (by rfl))
    (pss_one (ps_ret (pe_lst pa_nil)))
    pss_nil)
    (pss_cons (ps_if (pt_cmpR op_in_seq (pe_ix ix_tup (pv 0) pe_int (fun _ _ => rfl)) (pe_lst (pa_cons pe_str (pa_cons pe_str pa_nil))) (by rfl))
    (pss_one (ps_ret (pe_callTy call_list_of (by rfl) T.z_list (by decide +kernel) (pa_cons (pe_ix ix_tup (pv 0) pe_int (fun _ _ => rfl)) pa_nil))))
    pss_nil)
    (pss_cons (ps_if (pt_cmpR op_in_seq (pe_ix ix_tup (pv 0) pe_int (fun _ _ => rfl)) (pe_lst (pa_cons pe_str (pa_cons pe_str pa_nil))) (by rfl))
    (pss_one (ps_ret (pe_lst (pa_cons (pe_ix ix_tup (pv 0) pe_int (fun _ _ => rfl)) pa_nil))))
    pss_nil)
    (pss_one (ps_ret (pe_callTy call_list_of (by rfl) T.z_list (by decide +kernel) (pa_cons (pe_slice sl_tup (pv 0) (po_some pe_int) po_none) pa_nil))))))), ?_⟩
  refine ⟨_, rfl, a, _, 0, _, rfl, rfl, sqt ha, atI0, (Nat.le_of_ble_eq_true rfl), fun p1 hp1 => ?_⟩
  have s1 := fun o => same_new hp1 o
  refine ⟨p1, _, rfl, .inl (sqd upd_same), rfl, (by decide +kernel), _, rfl, ?_⟩
  rcases cls_le i with h0 | h1 | h2 | h3
  · refine ifT (inT (ys := ["number", "name", "true", "false"]) rfl (by rw [c0, h0] <;> rfl)) ?_
    refine ⟨(Nat.le_of_ble_eq_true rfl), fun p hp => ?_⟩
    refine q p [] _ ((s1 _).trans (same_new hp _)) ((s1 _).free hp) upd_same ?_
    rw [kids_leaf h0]
    exact kids0
  · refine ifF (inT (ys := ["number", "name", "true", "false"]) rfl (by rw [c0, h1] <;> rfl)) ?_
    obtain ⟨b2, ys, e1, e2, hk⟩ := hi.group h1
    refine ⟨_, rfl, a, _, 0, _, rfl, rfl, sqt (s1 _ _ _ e1), atI0, (Nat.le_of_ble_eq_true rfl), fun p2 hp2 => ?_⟩
    have s2 := fun o => (s1 _).trans (same_new hp2 o)
    refine ⟨p2, _, rfl, .inl (sqd upd_same), rfl, (by decide +kernel), _, rfl, ?_⟩
    refine ifT (inT (ys := ["all", "any"]) rfl (by rw [c1, h1] <;> rfl)) ?_
    refine ⟨_, rfl, a, _, 1, _, rfl, rfl, sqt (s2 _ _ _ e1), atI1, _, _, rfl, .inr (sqt (s2 _ _ _ e2)), fun p hp => ?_⟩
    exact q p ys _ ((s2 _).trans (same_new hp _)) ((s2 _).free hp) upd_same (hk.mono (Tp.same ((s2 _).trans (same_new hp _))))
  · refine ifF (inT (ys := ["number", "name", "true", "false"]) rfl (by rw [c0, h2] <;> rfl)) ?_
    obtain ⟨x, j, n, e1, hj, ej⟩ := hi.divs h2
    refine ⟨_, rfl, a, _, 0, _, rfl, rfl, sqt (s1 _ _ _ e1), atI0, (Nat.le_of_ble_eq_true rfl), fun p2 hp2 => ?_⟩
    have s2 := fun o => (s1 _).trans (same_new hp2 o)
    refine ⟨p2, _, rfl, .inl (sqd upd_same), rfl, (by decide +kernel), _, rfl, ?_⟩
    refine ifF (inT (ys := ["all", "any"]) rfl (by rw [c1, h2] <;> rfl)) ?_
    refine ⟨_, rfl, a, _, 0, _, rfl, rfl, sqt (s2 _ _ _ e1), atI0, (Nat.le_of_ble_eq_true rfl), fun p3 hp3 => ?_⟩
    have s3 := fun o => (s2 _).trans (same_new hp3 o)
    refine ⟨p3, _, rfl, .inl (sqd upd_same), rfl, (by decide +kernel), _, rfl, ?_⟩
    refine ifT (inT (ys := ["div", "mod"]) rfl (by rw [c2, h2] <;> rfl)) ?_
    refine ⟨_, rfl, a, _, 1, _, rfl, rfl, sqt (s3 _ _ _ e1), atI1, (Nat.le_of_ble_eq_true rfl), fun p hp => ?_⟩
    refine q p [x] _ ((s3 _).trans (same_new hp _)) ((s3 _).free hp) upd_same ?_
    rw [ej]
    exact kids1 (hj.mono (Tp.same ((s3 _).trans (same_new hp _))))
  · refine ifF (inT (ys := ["number", "name", "true", "false"]) rfl (by rw [c0, h3] <;> rfl)) ?_
    obtain ⟨ys, e1, hk⟩ := hi.rest h3
    refine ⟨_, rfl, a, _, 0, _, rfl, rfl, sqt (s1 _ _ _ e1), atI0, (Nat.le_of_ble_eq_true rfl), fun p2 hp2 => ?_⟩
    have s2 := fun o => (s1 _).trans (same_new hp2 o)
    refine ⟨p2, _, rfl, .inl (sqd upd_same), rfl, (by decide +kernel), _, rfl, ?_⟩
    refine ifF (inT (ys := ["all", "any"]) rfl (by rw [c1, h3] <;> rfl)) ?_
    refine ⟨_, rfl, a, _, 0, _, rfl, rfl, sqt (s2 _ _ _ e1), atI0, (Nat.le_of_ble_eq_true rfl), fun p3 hp3 => ?_⟩
    have s3 := fun o => (s2 _).trans (same_new hp3 o)
    refine ⟨p3, _, rfl, .inl (sqd upd_same), rfl, (by decide +kernel), _, rfl, ?_⟩
    refine ifF (inT (ys := ["div", "mod"]) rfl (by rw [c2, h3] <;> rfl)) ?_
    refine ⟨_, rfl, 1, rfl, a, _, rfl, sqt (s3 _ _ _ e1), not_whole _ _ _, fun p4 hp4 => ?_⟩
    have s4 := fun o => (s3 _).trans (same_new hp4 o)
    rw [cut_tail]
    refine ⟨_, _, rfl, .inr (sqt upd_same), fun p hp => ?_⟩
    exact q p ys _ ((s4 _).trans (same_new hp _)) ((s4 _).free hp) upd_same (hk.mono (Tp.same ((s4 _).trans (same_new hp _))))
end
end NL

namespace NL
open PySem PySem.Spec PyProof.Rows L2
/-! ### what an expression is worth, by a fact that stays -/
def EvP (te : TE) (σ : L2.St) (H : Hp) (P : V → Hp → Prop) : Prop := ∀ H1, Same H H1 → ∀ Q : VK, (∀ v H2, Same H1 H2 → P v H2 → Q v H2) → te σ H1 Q
def EvA (ta : TA) (σ : L2.St) (H : Hp) (P : List V → Hp → Prop) : Prop := ∀ H1, Same H H1 → ∀ Q : List V → Hp → Prop, (∀ vs H2, Same H1 H2 → P vs H2 → Q vs H2) → ta σ H1 Q
def Mo (P : V → Hp → Prop) : Prop := ∀ v H H', Same H H' → P v H → P v H'
def MoA (P : List V → Hp → Prop) : Prop := ∀ vs H H', Same H H' → P vs H → P vs H'
section
variable {σ : L2.St} {H : Hp} {P P' P1 : V → Hp → Prop} {Pr Pa : List V → Hp → Prop} {te : TE} {ta tr : TA} {v : V} {K : PySem.W.Frag}
theorem evp_imp (h : EvP te σ H P) (g : ∀ v H', Same H H' → P v H' → P' v H') : EvP te σ H P' := fun H1 s Q q => h H1 s Q fun v H2 s2 p => q v H2 s2 (g v H2 (s.trans s2) p)
theorem eva_imp {Pa' : List V → Hp → Prop} (h : EvA ta σ H Pa) (g : ∀ v H', Same H H' → Pa v H' → Pa' v H') : EvA ta σ H Pa' := fun H1 s Q q => h H1 s Q fun v H2 s2 p => q v H2 s2 (g v H2 (s.trans s2) p)
theorem evp_c : EvP (tC v) σ H (fun x _ => x = v) := fun H1 _ Q q => q v H1 (Same.refl H1) rfl
theorem evp_v {i : Nat} (h : σ[i]? = some (some v)) : EvP (tVar i) σ H (fun x _ => x = v) := fun H1 _ Q q => ⟨v, h, q v H1 (Same.refl H1) rfl⟩
theorem eva_nil : EvA tNil σ H (fun vs _ => vs = []) := fun H1 _ Q q => q [] H1 (Same.refl H1) rfl
theorem eva_cons (h : EvP te σ H P) (m : Mo P) (hr : EvA tr σ H Pr) : EvA (tCons te tr) σ H (fun vs H' => ∃ v r, vs = v :: r ∧ P v H' ∧ Pr r H') := fun H1 s Q q =>
  h H1 s _ fun v H2 s2 p => hr H2 (s.trans s2) _ fun r H3 s3 pr => q _ H3 (s2.trans s3) ⟨v, r, rfl, m _ _ _ s3 p, pr⟩
theorem evp_tup (h : EvA ta σ H Pa) (m : MoA Pa) (hl : ∀ vs H', Pa vs H' → vs.length ≤ 1000) : EvP (tTup ta) σ H (fun v H' => ∃ p xs, v = .ref p ∧ H' p = some (.tup xs) ∧ Pa xs H') := fun H1 s Q q =>
  h H1 s _ fun xs H2 s2 pa => ⟨Nat.le_of_lt (small1000 (hl _ _ pa)), fun p hp => q _ _ (s2.trans (same_new hp _)) ⟨p, xs, rfl, upd_same, m _ _ _ (same_new hp _) pa⟩⟩
/-- a tuple of constants and slots: its items -/
theorem evp_fix {xs : List V} (h : EvA ta σ H (fun vs _ => vs = xs)) (hl : xs.length ≤ 1000) : EvP (tTup ta) σ H (fun v H' => ∃ p, v = .ref p ∧ H' p = some (.tup xs)) :=
  evp_imp (evp_tup h (fun _ _ _ _ e => e) (fun vs _ e => by rw [e]; exact hl)) fun v H' _ ⟨p, ys, e, e2, e3⟩ => ⟨p, e, by rw [e2, e3]⟩
theorem eva_c {xs : List V} (hr : EvA tr σ H (fun vs _ => vs = xs)) : EvA (tCons (tC v) tr) σ H (fun vs _ => vs = v :: xs) := fun H1 s Q q => hr H1 s _ fun r H2 s2 e => q _ H2 s2 (by rw [e])
theorem eva_v {i : Nat} {xs : List V} (h : σ[i]? = some (some v)) (hr : EvA tr σ H (fun vs _ => vs = xs)) : EvA (tCons (tVar i) tr) σ H (fun vs _ => vs = v :: xs) := fun H1 s Q q => ⟨v, h, hr H1 s _ fun r H2 s2 e => q _ H2 s2 (by rw [e])⟩
/-- a list of items that are all of one kind -/
def All (n : Nat) (P : V → Hp → Prop) : List V → Hp → Prop := fun vs H => vs.length = n ∧ ∀ v ∈ vs, P v H
theorem all_mo {n : Nat} (m : Mo P) : MoA (All n P) := fun vs H H' s h => ⟨h.1, fun v hv => m v H H' s (h.2 v hv)⟩
theorem eva_all0 : EvA tNil σ H (All 0 P) := eva_imp eva_nil fun vs _ _ e => ⟨by rw [e] <;> rfl, fun v hv => by rw [e] at hv; cases hv⟩
theorem eva_all {n : Nat} (m : Mo P) (h : EvP te σ H P) (hr : EvA tr σ H (All n P)) : EvA (tCons te tr) σ H (All (n + 1) P) := eva_imp (eva_cons h m hr) fun vs H' _ ⟨v, r, e, p, pr⟩ => ⟨by rw [e, List.length_cons, pr.1], fun x hx => by
  rw [e] at hx
  rcases List.mem_cons.mp hx with h | h
  · rw [h]; exact p
  · exact pr.2 x h⟩
theorem evp_lst (h : EvA ta σ H Pa) (m : MoA Pa) (hl : ∀ vs H', Pa vs H' → vs.length ≤ 1000) : EvP (tLst ta) σ H (fun v H' => ∃ p xs, v = .ref p ∧ H' p = some (.lst xs) ∧ Pa xs H' ∧ H p = none) := fun H1 s Q q =>
  h H1 s _ fun xs H2 s2 pa => ⟨Nat.le_of_lt (small1000 (hl _ _ pa)), fun p hp => q _ _ (s2.trans (same_new hp _)) ⟨p, xs, rfl, upd_same, m _ _ _ (same_new hp _) pa, (s.trans s2).free hp⟩⟩
/-- (w,) + both -/
theorem evp_wcat {w : V} {i : Nat} {b : Addr} {xs : List V} (hb : H b = some (.tup xs)) (hx : xs ≠ []) (hl : xs.length ≤ 900) (hi : σ[i]? = some (some (.ref b))) :
    EvP (tOp (rCatA K) (tTup (tCons (tC w) tNil)) (tVar i)) σ H (fun v H' => ∃ p, v = .ref p ∧ H' p = some (.tup (w :: xs))) := fun H1 s Q q => by
  refine ⟨(Nat.le_of_ble_eq_true rfl), fun p hp => ⟨_, hi, p, b, _, _, rfl, rfl, sqt upd_same, sqt (same_new hp _ _ _ (s _ _ hb)), ?_, (fun h => by cases h), fun _ h => absurd h hx, fun _ _ p2 hp2 => ?_⟩⟩
  · rw [List.length_singleton]
    exact Nat.le_of_lt (small1000 (by omega))
  · exact q _ _ ((same_new hp _).trans (same_new hp2 _)) ⟨p2, rfl, upd_same⟩
end
theorem valE {Q : VK} {a b : Int} {H : Hp} (h : a = b) (q : Q (.int b) H) : Q (.int a) H := by rw [h]; exact q
/-! ### items one level deeper -/
def ItP (xs : List Str) (B D S : Nat) : V → Hp → Prop := fun v H => ∃ (i : It) (b : Bool), ItemIn H i v ∧ Okx xs B b i ∧ i.dep = D ∧ i.sz ≤ S
theorem itp_mo {xs : List Str} {B D S : Nat} : Mo (ItP xs B D S) := fun v H H' s ⟨i, b, h, r⟩ => ⟨i, b, h.mono (Tp.same s), r⟩
section
variable {P : Program} {w : World} {K : PySem.W.Frag} {mg : Str → Option Value} {base : Heap}
/-! ### _law_depth -/
def spDepth (n : Nat) : Sp := fun vs H Q _ => ∃ (v : V) (i : It) (xs : List Str) (B : Nat) (b : Bool), vs = [v] ∧ ItemIn H i v ∧ Okx xs B b i ∧ i.dep ≤ n ∧ ∀ H', Same H H' → Q (.int i.dep) H'
theorem kids_dep {i : It} : i.dep = 1 + depL i.kids := by
  cases i <;> simp only [It.dep, It.kids, depL] <;> omega
theorem kids_ok {xs : List Str} {B : Nat} {b : Bool} {i : It} (h : Okx xs B b i) : ∀ j ∈ i.kids, ∃ b', Okx xs B b' j := by
  intro j hj
  cases h <;> simp only [It.kids, List.mem_cons, List.not_mem_nil, or_false] at hj
  case abs h => rw [hj]; exact ⟨_, h⟩
  case not h => rw [hj]; exact ⟨_, h⟩
  case dm h _ _ => rw [hj]; exact ⟨_, h⟩
  case bin h g =>
    rcases hj with e | e <;> rw [e]
    · exact ⟨_, h⟩
    · exact ⟨_, g⟩
  case cmp h g =>
    rcases hj with e | e <;> rw [e]
    · exact ⟨_, h⟩
    · exact ⟨_, g⟩
  case tri h g k =>
    rcases hj with e | e | e <;> rw [e]
    · exact ⟨_, h⟩
    · exact ⟨_, g⟩
    · exact ⟨_, k⟩
  case grp h => exact ⟨_, h j hj⟩
theorem kids_len {xs : List Str} {B : Nat} {b : Bool} {i : It} (h : Okx xs B b i) : i.kids.length ≤ 100 := by
  cases h <;> simp only [It.kids, List.length_cons, List.length_nil] <;> omega
theorem depL_in {l : List It} {i : It} (h : i ∈ l) : i.dep ≤ depL l := by
  induction l with
  | nil => cases h
  | cons a r ih =>
    rw [depL]
    rcases List.mem_cons.mp h with e | e
    · rw [e]; omega
    · have := ih e
      omega
theorem depL_max : ∀ l : List It, (∀ y ∈ (0 :: l.map fun i => (i.dep : Int)), y ≤ (depL l : Int)) ∧ (depL l : Int) ∈ (0 :: l.map fun i => (i.dep : Int))
  | [] => by
    rw [depL]
    refine ⟨fun y hy => ?_, List.mem_cons_self⟩
    rcases List.mem_cons.mp hy with h | h
    · rw [h]; exact Int.le_refl 0
    · cases h
  | a :: r => by
    obtain ⟨h1, h2⟩ := depL_max r
    rw [depL]
    refine ⟨fun y hy => ?_, ?_⟩
    · rw [List.map_cons] at hy
      rcases List.mem_cons.mp hy with h | h
      · omega
      · rcases List.mem_cons.mp h with h | h
        · omega
        · have := h1 y (List.mem_cons_of_mem _ h)
          omega
    · rw [List.map_cons]
      rcases Nat.le_total a.dep (depL r) with h | h
      · rw [Nat.max_eq_right h]
        rcases List.mem_cons.mp h2 with g | g
        · rw [g]; exact List.mem_cons_self
        · exact List.mem_cons_of_mem _ (List.mem_cons_of_mem _ g)
      · rw [Nat.max_eq_left h]
        exact List.mem_cons_of_mem _ List.mem_cons_self
theorem ok_law_depth (T : Txt K mg) : ∀ n : Nat, FnOk P w K mg base CX0 (n + 2) T.a_law_depth T.d_law_depth P_law_depth (spDepth n)
  | 0 => by
    have no : ∀ vs H Q E, ¬ spDepth 0 vs H Q E := fun vs H Q E ⟨v, i, xs, B, b, _, _, _, h, _⟩ => by
      have := dep_pos i
      omega
    exact ⟨fun vs H Q E h => absurd h (no vs H Q E), fun A outer s H args us vs Q E _ _ _ _ h => absurd h (no vs H Q E)⟩
  | n + 1 => by
    have G_law_depth := ok_law_depth T n
    have G_law_inner := ok_law_inner (P := P) (w := w) (base := base) T
    refine T.F_law_depth.ok sc_law_depth (fun vs H Q E h => ?_) (fun cdv A outer s H vs Q E hr h => ?_)
    · obtain ⟨v, i, xs, B, b, rfl, _⟩ := h
      rfl
    obtain ⟨v, i, xs, B, b, rfl, hi, ho, hd, q⟩ := h
    refine ⟨_, (pss_one (ps_ret (pe_op op_add pe_int (pe_callB (cr_max rfl) (by rfl) T.z_max (by decide +kernel) (pa_cons (pe_op op_cat (pe_lst (pa_cons pe_int pa_nil)) (pe_lc (own := [("part", 1)]) (g := (gName 1)) (tt := tYes) rfl sc_law_depth.nd (pi_list (pe_call G_law_inner (hr.mono (by omega)) (by rfl) T.m_law_inner T.F_law_inner.kp T.b_law_inner .nil pass0 (pa_cons (pv 0) pa_nil))) (blkOk_by (N := N_law_depth) (sc := defScope s_law_depth) (by decide +kernel)) (fun _ _ _ _ _ => (pg_name (i := 1) sc_law_depth.nd rfl (Or.inl rfl))) (fun _ _ _ _ _ => pts_nil) (fun _ _ _ _ _ => (pe_call G_law_depth (hr.mono (by omega)) (by rfl) T.m_law_depth T.F_law_depth.kp T.b_law_depth .nil pass0 (pa_cons (pv 1) pa_nil))))) pa_nil))))), ?_⟩
    refine ⟨(Nat.le_of_ble_eq_true rfl), fun p1 hp1 => ?_⟩
    have s1 := fun o => same_new hp1 o
    refine ⟨_, rfl, v, i, xs, B, b, rfl, hi.mono (Tp.same (s1 _)), ho, fun lp ys H2 s2 hlp e2 hk => ?_⟩
    refine ⟨lp, rfl, ⟨_, sqd e2⟩, fun D hD => ?_⟩
    have e1 := s2 p1 _ upd_same
    have n1D : p1 ≠ D := ne_of_none e1 hD
    have hkd := @kids_dep i
    refine lc_list (K := K) (a := lp) (xs := ys) (fun (j : Nat) (H' : Hp) => Same H2 H' ∧ H' D = some (.lst ((i.kids.take j).map fun k => V.int k.dep))) ?_ ?_ ?_ ?_
    · exact ⟨same_new hD _, by rw [upd_same, List.take_zero]; rfl⟩
    · rintro j H' _ ⟨s3, _⟩
      exact sqd (s3 _ _ e2)
    · rintro j x H' hx ⟨s3, e3⟩
      obtain ⟨kj, hkj, hin, hmem⟩ := hk.get hx
      obtain ⟨b', ho'⟩ := kids_ok ho kj hmem
      have hdj := depL_in hmem
      refine ⟨rfl, yes_if ?_⟩
      refine ⟨_, rfl, _, kj, xs, B, b', rfl, hin.mono (Tp.same s3), ho', by omega, fun H4 s4 => ?_⟩
      refine ⟨_, s4 _ _ e3, ?_, same_put (s3.trans s4) hD, ?_⟩
      · rw [List.length_map, List.length_take]
        have := kids_len ho
        exact small1000 (by omega)
      · rw [upd_same, List.take_add_one, hkj, List.map_append]
        rfl
    · rintro H3 ⟨s3, e3⟩
      rw [hk.1, List.take_length] at e3
      have hkl := kids_len ho
      refine ⟨p1, D, _, _, rfl, rfl, s3 _ _ e1, e3, ?_, fun p4 hp4 => ?_⟩
      · rw [List.length_map, List.length_singleton]
        exact Nat.le_of_lt (small1000 (by omega))
      · refine ⟨p4, 0 :: i.kids.map (fun k => (k.dep : Int)), rfl, sqd ?_, Nat.succ_pos _, fun m hm hmx => ?_⟩
        · rw [upd_same, List.map_cons, List.map_map]
          rfl
        · obtain ⟨g1, g2⟩ := depL_max i.kids
          have h1 := g1 m hm
          have h2 := hmx _ g2
          have e : 1 + m = (i.dep : Int) := by omega
          refine ⟨_, _, rfl, rfl, ?_⟩
          exact valE e (q _ ((s1 _).trans (s2.trans (s3.trans (same_new hp4 _)))))
end
end NL

namespace NL
open PySem PySem.Spec PyProof.Rows L2
theorem gn {i : Nat} {v : V} {σ : L2.St} {H : Hp} {Q : L2.St → Hp → Prop} (h : Q (σ.set i (some v)) H) : gName i v σ H Q := h
theorem r_seq {t u : TS} {D : Ends} {σ : L2.St} {H : Hp} (h : t { D with nx := u D } σ H) : tSeq t u D σ H := h
theorem r_asg {te : TE} {g : TG} {D : Ends} {σ : L2.St} {H : Hp} (h : te σ H fun x H1 => g x σ H1 D.nx) : tAsg te g D σ H := h
theorem r_op {r : R2} {ta tb : TE} {σ : L2.St} {H : Hp} {Q : VK} (h : ta σ H fun x H1 => tb σ H1 fun y H2 => r x y H2 Q) : tOp r ta tb σ H Q := h
theorem mo_eq {v : V} : Mo (fun x _ => x = v) := fun _ _ _ _ e => e
theorem moa_eq {xs : List V} : MoA (fun vs _ => vs = xs) := fun _ _ _ _ e => e
theorem moa_cons {P : V → Hp → Prop} {Pr : List V → Hp → Prop} (m : Mo P) (g : MoA Pr) : MoA (fun vs H' => ∃ v r, vs = v :: r ∧ P v H' ∧ Pr r H') := fun _ _ _ s ⟨v, r, e, p, q⟩ => ⟨v, r, e, m _ _ _ s p, g _ _ _ s q⟩
/-- a tuple of these items is at v -/
abbrev TupP (xs : List V) : V → Hp → Prop := fun v H => ∃ p, v = .ref p ∧ H p = some (.tup xs)
theorem mo_tup {xs : List V} : Mo (TupP xs) := fun _ _ _ s ⟨p, e, h⟩ => ⟨p, e, s _ _ h⟩
section
variable {σ : L2.St} {H : Hp} {v sv : V} {i si : It} {xs : List Str} {B : Nat} {K : PySem.W.Frag}
theorem p_abs (hv : σ[0]? = some (some v)) (hi : ItemIn H i v) (ho : Okx xs B false i) : EvP (tTup (tCons (tC (.str "abs")) (tCons (tVar 0) tNil))) σ H (ItP xs B (i.dep + 1) (i.sz + 3)) :=
  evp_imp (evp_fix (eva_c (eva_v hv eva_nil)) (Nat.le_of_ble_eq_true rfl)) fun x H' s ⟨p, e, h⟩ => ⟨.un "abs" i, false, by rw [e]; exact .un h (hi.mono (Tp.same s)), .abs ho, by rw [It.dep]; omega, by rw [It.sz]; omega⟩
theorem p_not (hv : σ[0]? = some (some v)) (hi : ItemIn H i v) (ho : Okx xs B true i) : EvP (tTup (tCons (tC (.str "not")) (tCons (tVar 0) tNil))) σ H (ItP xs B (i.dep + 1) (i.sz + 3)) :=
  evp_imp (evp_fix (eva_c (eva_v hv eva_nil)) (Nat.le_of_ble_eq_true rfl)) fun x H' s ⟨p, e, h⟩ => ⟨.un "not" i, true, by rw [e]; exact .un h (hi.mono (Tp.same s)), .not ho, by rw [It.dep]; omega, by rw [It.sz]; omega⟩
theorem p_dm {w : Str} {n : Int} (hw : w ∈ (["div", "mod"] : List Str)) (hn : 1 ≤ n ∧ n.natAbs ≤ B + 1) (hv : σ[0]? = some (some v)) (hi : ItemIn H i v) (ho : Okx xs B false i) : EvP (tTup (tCons (tC (.str w)) (tCons (tVar 0) (tCons (tC (.int n)) tNil)))) σ H (ItP xs B (i.dep + 1) (i.sz + 3)) :=
  evp_imp (evp_fix (eva_c (eva_v hv (eva_c eva_nil))) (Nat.le_of_ble_eq_true rfl)) fun x H' s ⟨p, e, h⟩ => ⟨.dm w i n, false, by rw [e]; exact .dm h (hi.mono (Tp.same s)), .dm hw ho hn.1 hn.2, by rw [It.dep]; omega, by rw [It.sz]; omega⟩
theorem p_bin {w : Str} {k : Nat} {b : Addr} {ys : List V} (hb : H b = some (.tup ys)) (hys : ys = [v, sv] ∨ ys = [sv, v]) (hσ : σ[k]? = some (some (.ref b))) (hi : ItemIn H i v) (hsi : ItemIn H si sv) (ho : Okx xs B false i) (hso : Okx xs B false si) (hd : si.dep = 1) (hz : si.sz = 1)
    (hw : w ∈ (["add", "sub", "mul", "min", "max", "less", "equal"] : List Str)) : EvP (tOp (rCatA K) (tTup (tCons (tC (.str w)) tNil)) (tVar k)) σ H (ItP xs B (i.dep + 1) (i.sz + 3)) := by
  have hp := dep_pos i
  have hl : ys.length = 2 := by rcases hys with e | e <;> rw [e] <;> rfl
  refine evp_imp (evp_wcat hb (by intro h; rw [h] at hl; cases hl) (by omega) hσ) fun x H' s ⟨p, e, h⟩ => ?_
  have hok : ∀ a b, Okx xs B false a → Okx xs B false b → ∃ t, Okx xs B t (.bin w a b) := fun a b ha hb => by
    by_cases h7 : w ∈ (["less", "equal"] : List Str)
    · exact ⟨_, .cmp h7 ha hb⟩
    · refine ⟨_, .bin ?_ ha hb⟩
      simp only [List.mem_cons, List.not_mem_nil, or_false] at hw h7 ⊢
      rcases hw with h | h | h | h | h | h | h
      · exact .inl h
      · exact .inr (.inl h)
      · exact .inr (.inr (.inl h))
      · exact .inr (.inr (.inr (.inl h)))
      · exact .inr (.inr (.inr (.inr h)))
      · exact absurd (.inl h) h7
      · exact absurd (.inr h) h7
  have hi' := hi.mono (Tp.same s)
  have hsi' := hsi.mono (Tp.same s)
  rw [e]
  rcases hys with ey | ey
  · rw [ey] at h
    obtain ⟨t, ht⟩ := hok i si ho hso
    exact ⟨.bin w i si, t, .bin h hi' hsi', ht, by rw [It.dep]; omega, by rw [It.sz]; omega⟩
  · rw [ey] at h
    obtain ⟨t, ht⟩ := hok si i hso ho
    exact ⟨.bin w si i, t, .bin h hsi' hi', ht, by rw [It.dep]; omega, by rw [It.sz]; omega⟩
theorem p_if1 (hv : σ[0]? = some (some v)) (hs : σ[1]? = some (some sv)) (hi : ItemIn H i v) (hsi : ItemIn H si sv) (ho : Okx xs B false i) (hso : Okx xs B false si) (hd : si.dep = 1) (hz : si.sz = 1) :
    EvP (tTup (tCons (tC (.str "if")) (tCons (tTup (tCons (tC (.str "true")) tNil)) (tCons (tVar 0) (tCons (tVar 1) tNil))))) σ H (ItP xs B (i.dep + 1) (i.sz + 3)) := by
  have hp := dep_pos i
  refine evp_imp (evp_tup (eva_cons evp_c mo_eq (eva_cons (evp_fix (eva_c eva_nil) (Nat.le_of_ble_eq_true rfl)) mo_tup (eva_v hv (eva_v hs eva_nil)))) (moa_cons mo_eq (moa_cons mo_tup moa_eq)) ?_) ?_
  · rintro vs H' ⟨_, _, rfl, _, _, _, rfl, _, rfl⟩
    exact Nat.le_of_ble_eq_true rfl
  · rintro x H' s ⟨p, _, rfl, h, _, _, rfl, rfl, _, _, rfl, ⟨p2, rfl, h2⟩, rfl⟩
    refine ⟨.tri (.lit true) i si, false, .tri h (.lit h2) (hi.mono (Tp.same s)) (hsi.mono (Tp.same s)), .tri .lit ho hso, ?_, ?_⟩
    · simp only [It.dep]; omega
    · simp only [It.sz]; omega
theorem p_if2 (hv : σ[0]? = some (some v)) (hs : σ[1]? = some (some sv)) (hi : ItemIn H i v) (hsi : ItemIn H si sv) (ho : Okx xs B false i) (hso : Okx xs B false si) (hd : si.dep = 1) (hz : si.sz = 1) :
    EvP (tTup (tCons (tC (.str "if")) (tCons (tTup (tCons (tC (.str "false")) tNil)) (tCons (tVar 1) (tCons (tVar 0) tNil))))) σ H (ItP xs B (i.dep + 1) (i.sz + 3)) := by
  have hp := dep_pos i
  refine evp_imp (evp_tup (eva_cons evp_c mo_eq (eva_cons (evp_fix (eva_c eva_nil) (Nat.le_of_ble_eq_true rfl)) mo_tup (eva_v hs (eva_v hv eva_nil)))) (moa_cons mo_eq (moa_cons mo_tup moa_eq)) ?_) ?_
  · rintro vs H' ⟨_, _, rfl, _, _, _, rfl, _, rfl⟩
    exact Nat.le_of_ble_eq_true rfl
  · rintro x H' s ⟨p, _, rfl, h, _, _, rfl, rfl, _, _, rfl, ⟨p2, rfl, h2⟩, rfl⟩
    refine ⟨.tri (.lit false) si i, false, .tri h (.lit h2) (hsi.mono (Tp.same s)) (hi.mono (Tp.same s)), .tri .lit hso ho, ?_, ?_⟩
    · simp only [It.dep]; omega
    · simp only [It.sz]; omega
theorem p_if3 (hv : σ[0]? = some (some v)) (hs : σ[1]? = some (some sv)) (hi : ItemIn H i v) (hsi : ItemIn H si sv) (ho : Okx xs B true i) (hso : Okx xs B false si) (hd : si.dep = 1) (hz : si.sz = 1) :
    EvP (tTup (tCons (tC (.str "if")) (tCons (tVar 0) (tCons (tVar 1) (tCons (tVar 1) tNil))))) σ H (ItP xs B (i.dep + 1) (i.sz + 3)) :=
  have hp := dep_pos i
  evp_imp (evp_fix (eva_c (eva_v hv (eva_v hs (eva_v hs eva_nil)))) (Nat.le_of_ble_eq_true rfl)) fun x H' s ⟨p, e, h⟩ => ⟨.tri i si si, false, by rw [e]; exact .tri h (hi.mono (Tp.same s)) (hsi.mono (Tp.same s)) (hsi.mono (Tp.same s)), .tri ho hso hso, by rw [It.dep]; omega, by rw [It.sz]; omega⟩
/-- the parts of a group -/
def GrP (xs : List Str) (B N D S : Nat) : V → Hp → Prop := fun x H => ∃ p ys l, x = .ref p ∧ H p = some (.tup ys) ∧ Kids H l ys ∧ (∀ j ∈ l, Okx xs B true j) ∧ depL l = D ∧ szL l ≤ S ∧ l.length ≤ N
theorem grp_mo {N D S : Nat} : Mo (GrP xs B N D S) := fun _ _ _ s ⟨p, ys, l, e, h, k, r⟩ => ⟨p, ys, l, e, s _ _ h, k.mono (Tp.same s), r⟩
theorem p_parts1 (hv : σ[0]? = some (some v)) (hi : ItemIn H i v) (ho : Okx xs B true i) : EvP (tTup (tCons (tVar 0) (tCons (tTup (tCons (tC (.str "true")) tNil)) tNil))) σ H (GrP xs B 2 i.dep (i.sz + 1)) := by
  have hp := dep_pos i
  refine evp_imp (evp_tup (eva_cons (evp_v hv) mo_eq (eva_cons (evp_fix (eva_c eva_nil) (Nat.le_of_ble_eq_true rfl)) mo_tup eva_nil)) (moa_cons mo_eq (moa_cons mo_tup moa_eq)) ?_) ?_
  · rintro vs H' ⟨_, _, rfl, _, _, _, rfl, _, rfl⟩
    exact Nat.le_of_ble_eq_true rfl
  · rintro x H' s ⟨p, _, rfl, h, _, _, rfl, rfl, _, _, rfl, ⟨p2, rfl, h2⟩, rfl⟩
    refine ⟨p, _, [i, .lit true], rfl, h, .cons (hi.mono (Tp.same s)) (kids1 (.lit h2)), ?_, ?_, ?_, Nat.le_refl 2⟩
    · intro j hj
      simp only [List.mem_cons, List.not_mem_nil, or_false] at hj
      rcases hj with e | e <;> rw [e]
      · exact ho
      · exact .lit
    · simp only [depL, It.dep]; omega
    · simp only [szL, It.sz]; omega
theorem p_parts2 (hv : σ[0]? = some (some v)) (hi : ItemIn H i v) (ho : Okx xs B true i) : EvP (tTup (tCons (tTup (tCons (tC (.str "false")) tNil)) (tCons (tVar 0) tNil))) σ H (GrP xs B 2 i.dep (i.sz + 1)) := by
  have hp := dep_pos i
  refine evp_imp (evp_tup (eva_cons (evp_fix (eva_c eva_nil) (Nat.le_of_ble_eq_true rfl)) mo_tup (eva_v hv eva_nil)) (moa_cons mo_tup moa_eq) ?_) ?_
  · rintro vs H' ⟨_, _, rfl, _, rfl⟩
    exact Nat.le_of_ble_eq_true rfl
  · rintro x H' s ⟨p, _, rfl, h, _, _, rfl, ⟨p2, rfl, h2⟩, rfl⟩
    refine ⟨p, _, [.lit false, i], rfl, h, .cons (.lit h2) (kids1 (hi.mono (Tp.same s))), ?_, ?_, ?_, Nat.le_refl 2⟩
    · intro j hj
      simp only [List.mem_cons, List.not_mem_nil, or_false] at hj
      rcases hj with e | e <;> rw [e]
      · exact .lit
      · exact ho
    · simp only [depL, It.dep]; omega
    · simp only [szL, It.sz]; omega
theorem p_grp {w : Str} {k : Nat} {gv : V} {D S : Nat} (hw : w ∈ (["all", "any"] : List Str)) (hg : GrP xs B 3 D S gv H) (hσ : σ[k]? = some (some gv)) : EvP (tTup (tCons (tC (.str w)) (tCons (tVar k) tNil))) σ H (ItP xs B (D + 1) (S + 1)) := by
  obtain ⟨b, ys, l, rfl, hb, hk, hok, hd, hs, h3⟩ := hg
  refine evp_imp (evp_fix (eva_c (eva_v hσ eva_nil)) (Nat.le_of_ble_eq_true rfl)) fun x H' s ⟨p, e, h⟩ => ⟨.grp w l, true, ?_, .grp hw (by omega) hok, by rw [It.dep]; omega, by rw [It.sz]; omega⟩
  have hk' := hk.mono (Tp.same s)
  rw [e]
  exact .grp h (s _ _ hb) hk'.1 hk'.2
theorem itp_le {D S S' : Nat} {x : V} (h : ItP xs B D S x H) (hs : S ≤ S') : ItP xs B D S' x H := by
  obtain ⟨i, b, a, c, d, e⟩ := h
  exact ⟨i, b, a, c, d, Nat.le_trans e hs⟩
/-- the two orders of an item and its side -/
def BothP (v sv : V) : V → Hp → Prop := fun x H => ∃ p ys, x = .ref p ∧ H p = some (.tup ys) ∧ (ys = [v, sv] ∨ ys = [sv, v])
theorem both_mo : Mo (BothP v sv) := fun _ _ _ s ⟨p, ys, e, h, r⟩ => ⟨p, ys, e, s _ _ h, r⟩
theorem p_both (hv : σ[0]? = some (some v)) (hs : σ[1]? = some (some sv)) : EvP (tLst (tCons (tTup (tCons (tVar 0) (tCons (tVar 1) tNil))) (tCons (tTup (tCons (tVar 1) (tCons (tVar 0) tNil))) tNil))) σ H (fun v' H' => ∃ p ys, v' = .ref p ∧ H' p = some (.lst ys) ∧ All 2 (BothP v sv) ys H' ∧ H p = none) :=
  evp_lst (eva_all both_mo (evp_imp (evp_fix (eva_v hv (eva_v hs eva_nil)) (Nat.le_of_ble_eq_true rfl)) fun x H' _ ⟨p, e, h⟩ => ⟨p, _, e, h, .inl rfl⟩)
    (eva_all both_mo (evp_imp (evp_fix (eva_v hs (eva_v hv eva_nil)) (Nat.le_of_ble_eq_true rfl)) fun x H' _ ⟨p, e, h⟩ => ⟨p, _, e, h, .inr rfl⟩) eva_all0)) (all_mo both_mo) fun vs H' h => by rw [h.1]; exact (Nat.le_of_ble_eq_true rfl)
end
section
variable {P : Program} {w : World} {K : PySem.W.Frag} {mg : Str → Option Value} {base : Heap}
/-! ### _law_around -/
def spAround : Sp := fun vs H Q _ => ∃ (v sv : V) (i si : It) (xs : List Str) (B : Nat) (b : Bool) (m t : Int), vs = [v, sv, .int m, .int t] ∧ ItemIn H i v ∧ Okx xs B b i ∧ ItemIn H si sv ∧ Okx xs B false si ∧ si.dep = 1 ∧ si.sz = 1 ∧ 100 ≤ B ∧ -1000 ≤ m ∧ m ≤ 1000 ∧
  ∀ v' i' b' H', Same H H' → ItemIn H' i' v' → Okx xs B b' i' → i'.dep = i.dep + m.toNat → i'.sz ≤ i.sz + 5 * m.toNat → Q v' H'
theorem ok_law_around (T : Txt K mg) : FnOk P w K mg base CX0 2 T.a_law_around T.d_law_around P_law_around spAround := by
  have G_law_is_test := ok_law_is_test (P := P) (w := w) (base := base) T
  refine T.F_law_around.ok sc_law_around (fun vs H Q E h => ?_) (fun cdv A outer s H vs Q E hr h => ?_)
  · obtain ⟨v, sv, i, si, xs, B, b, m, t, rfl, _⟩ := h
    rfl
  obtain ⟨v, sv, i, si, xs, B, b, m, t, rfl, hi, ho, hsi, hso, hsd, hsz, hB, m0, m1, q⟩ := h
  refine ⟨_, (pss_cons (ps_for PassesOwn.never rfl (pi_range1 (by rfl) T.z_range (pa_cons (pv 2) pa_nil)) (pg_name (i := 4) sc_law_around.nd rfl (Or.inl rfl))
    (pss_cons (ps_set (i := 5) sc_law_around.nd rfl (Or.inl rfl) (pe_ix ix_list (pe_lst (pa_cons (pe_tup (pa_cons (pv 0) (pa_cons (pv 1) pa_nil))) (pa_cons (pe_tup (pa_cons (pv 1) (pa_cons (pv 0) pa_nil))) pa_nil))) (pe_op op_mod (pe_callTy call_int1 (by rfl) T.z_int (by decide +kernel) (pa_cons (pe_op op_add (pe_op op_fdiv (pv 3) pe_int) (pv 4)) pa_nil)) pe_int) (fun _ _ => rfl)))
    (pss_one (ps_if (pt_val (pe_call G_law_is_test (hr.mono (by omega)) (by rfl) T.m_law_is_test T.F_law_is_test.kp T.b_law_is_test .nil pass0 (pa_cons (pv 0) pa_nil)))
    (pss_cons (ps_set (i := 6) sc_law_around.nd rfl (Or.inl rfl) (pe_ix ix_list (pe_lst (pa_cons (pe_tup (pa_cons (pv 0) (pa_cons (pe_tup (pa_cons pe_str pa_nil)) pa_nil))) (pa_cons (pe_tup (pa_cons (pe_tup (pa_cons pe_str pa_nil)) (pa_cons (pv 0) pa_nil))) pa_nil))) (pe_op op_mod (pe_callTy call_int1 (by rfl) T.z_int (by decide +kernel) (pa_cons (pe_op op_add (pe_op op_fdiv (pv 3) pe_int) (pv 4)) pa_nil)) pe_int) (fun _ _ => rfl)))
    (C8.pss_cut (ps_if (pt_cmpR op_lt (pv 2) pe_int (nomark _))
    (pss_one (ps_set (i := 6) sc_law_around.nd rfl (Or.inl rfl) (pe_op op_catA (pe_tup (pa_cons (pe_tup (pa_cons pe_str pa_nil)) pa_nil)) (pv 6))))
    pss_nil)
    (pss_one (ps_set (i := 0) sc_law_around.nd rfl (Or.inl rfl) (pe_ix ix_list (pe_lst (pa_cons (pe_tup (pa_cons pe_str (pa_cons (pv 0) pa_nil))) (pa_cons (pe_tup (pa_cons pe_str (pa_cons (pv 6) pa_nil))) (pa_cons (pe_tup (pa_cons pe_str (pa_cons (pv 6) pa_nil))) (pa_cons (pe_tup (pa_cons pe_str (pa_cons (pv 0) (pa_cons (pv 1) (pa_cons (pv 1) pa_nil))))) pa_nil))))) (pe_op op_mod (pe_callTy call_int1 (by rfl) T.z_int (by decide +kernel) (pa_cons (pe_op op_add (pv 3) (pv 4)) pa_nil)) pe_int) (fun _ _ => rfl))))))
    (pss_cons (ps_set (i := 7) sc_law_around.nd rfl (Or.inl rfl) (pe_lst (pa_cons (pe_tup (pa_cons pe_str (pa_cons (pv 0) pa_nil))) (pa_cons (pe_op op_catA (pe_tup (pa_cons pe_str pa_nil)) (pv 5)) (pa_cons (pe_op op_catA (pe_tup (pa_cons pe_str pa_nil)) (pv 5)) (pa_cons (pe_op op_catA (pe_tup (pa_cons pe_str pa_nil)) (pv 5)) (pa_cons (pe_op op_catA (pe_tup (pa_cons pe_str pa_nil)) (pv 5)) (pa_cons (pe_op op_catA (pe_tup (pa_cons pe_str pa_nil)) (pv 5)) pa_nil))))))))
    (pss_cons (ps_set (i := 7) sc_law_around.nd rfl (Or.inl rfl) (pe_op op_cat (pv 7) (pe_lst (pa_cons (pe_tup (pa_cons pe_str (pa_cons (pv 0) (pa_cons pe_int pa_nil)))) (pa_cons (pe_tup (pa_cons pe_str (pa_cons (pv 0) (pa_cons pe_int pa_nil)))) (pa_cons (pe_tup (pa_cons pe_str (pa_cons (pe_tup (pa_cons pe_str pa_nil)) (pa_cons (pv 0) (pa_cons (pv 1) pa_nil))))) pa_nil))))))
    (pss_cons (ps_set (i := 7) sc_law_around.nd rfl (Or.inl rfl) (pe_op op_cat (pv 7) (pe_lst (pa_cons (pe_tup (pa_cons pe_str (pa_cons (pe_tup (pa_cons pe_str pa_nil)) (pa_cons (pv 1) (pa_cons (pv 0) pa_nil))))) (pa_cons (pe_op op_catA (pe_tup (pa_cons pe_str pa_nil)) (pv 5)) (pa_cons (pe_op op_catA (pe_tup (pa_cons pe_str pa_nil)) (pv 5)) pa_nil))))))
    (pss_one (ps_set (i := 0) sc_law_around.nd rfl (Or.inl rfl) (pe_ix ix_list (pv 7) (pe_op op_mod (pe_callTy call_int1 (by rfl) T.z_int (by decide +kernel) (pa_cons (pe_op op_add (pv 3) (pe_op op_mul (pv 4) pe_int)) pa_nil)) pe_int) (fun _ _ => rfl)))))))))))
    (pss_one (ps_ret (pv 0)))), ?_⟩
  refine ⟨_, rfl, m, rfl, by omega, by omega, for_range (lo := 0) (n := m.toNat) (fun (j : Nat) (σ : L2.St) (H' : Hp) => ∃ (v : V) (i' : It) (b' : Bool) (y1 y2 y3 y4 : Option V), σ = [some v, some sv, some (.int m), some (.int t), y1, y2, y3, y4] ∧ Same H H' ∧ ItemIn H' i' v ∧ Okx xs B b' i' ∧ i'.dep = i.dep + j ∧ i'.sz ≤ i.sz + 5 * j) ?_ ?_ ?_⟩
  · exact ⟨v, i, b, none, none, none, none, rfl, Same.refl H, hi, ho, rfl, Nat.le_refl _⟩
  · rintro j σ H1 hj ⟨v, i', b', y1, y2, y3, y4, rfl, s1, hi', ho', hd', hz'⟩
    -- both
    refine gn (r_seq (r_asg (r_op ?_)))
    refine p_both (v := v) (sv := sv) (σ := [some v, some sv, some (.int m), some (.int t), some (.int (0 + (j : Int))), y2, y3, y4]) rfl rfl H1 (Same.refl H1) _ fun u H2 s2 hu => ?_
    obtain ⟨p, ys, rfl, e2, ⟨yl, yall⟩, _⟩ := hu
    have two := fun z : Int => (⟨Int.emod_nonneg z (by decide : (2 : Int) ≠ 0), Int.emod_lt_of_pos z (by decide)⟩ : 0 ≤ z % 2 ∧ z % 2 < 2)
    obtain ⟨bv, hbv, hbm⟩ := atI_mem (xs := ys) (two (t / 12 + (0 + (j : Int)))).1 (by rw [yl]; exact (two _).2)
    refine ⟨_, rfl, _, _, rfl, rfl, ⟨by decide, by decide⟩, _, rfl, _, _, rfl, rfl, .inl ⟨_, rfl, _, _, rfl, rfl, (by show (0 : Int) < 2; decide), _, _, _, _, rfl, rfl, sqd e2, hbv, ?_⟩⟩
    obtain ⟨bp, bys, rfl, ebp, hbys⟩ := yall bv hbm
    have hsi2 := hsi.mono (Tp.same (s1.trans s2))
    have hi2 := hi'.mono (Tp.same s2)
    refine ⟨_, rfl, v, i', xs, B, b', rfl, hi2, ho', fun H3 s3 => ⟨b', rfl, ?_⟩⟩
    have hi3 := hi2.mono (Tp.same s3)
    have hsi3 := hsi2.mono (Tp.same s3)
    cases b' with
    | true =>
      refine iteT ?_
      -- parts
      refine r_seq (r_asg (r_op ?_))
      refine (evp_lst (σ := [some v, some sv, some (.int m), some (.int t), some (.int (0 + (j : Int))), some (.ref bp), y3, y4]) (eva_all grp_mo (p_parts1 rfl hi3 ho') (eva_all grp_mo (p_parts2 rfl hi3 ho') eva_all0)) (all_mo grp_mo) fun vs H' h => by rw [h.1]; exact (Nat.le_of_ble_eq_true rfl)) H3 (Same.refl H3) _ fun u H4 s4 hu => ?_
      obtain ⟨p4, ys4, rfl, e4, ⟨yl4, yall4⟩, _⟩ := hu
      obtain ⟨gv, hgv, hgm⟩ := atI_mem (xs := ys4) (two (t / 12 + (0 + (j : Int)))).1 (by rw [yl4]; exact (two _).2)
      refine ⟨_, rfl, _, _, rfl, rfl, ⟨by decide, by decide⟩, _, rfl, _, _, rfl, rfl, .inl ⟨_, rfl, _, _, rfl, rfl, (by show (0 : Int) < 2; decide), _, _, _, _, rfl, rfl, sqd e4, hgv, ?_⟩⟩
      obtain ⟨gb, gys, gl, rfl, eg, hk, hok, hgd, hgs, hgl⟩ := yall4 gv hgm
      have hp := dep_pos i'
      refine ⟨fun σ H5 => ∃ gv, σ = [some v, some sv, some (.int m), some (.int t), some (.int (0 + (j : Int))), some (.ref bp), some gv, y4] ∧ Same H4 H5 ∧ GrP xs B 3 i'.dep (i'.sz + 2) gv H5, ?_, ?_⟩
      · refine ⟨_, rfl, _, _, rfl, rfl, _, rfl, ?_⟩
        refine ite2 (fun c => ?_) (fun c => ?_)
        · refine ⟨(Nat.le_of_ble_eq_true rfl), fun p5 hp5 => ⟨(Nat.le_of_ble_eq_true rfl), fun p6 hp6 => ⟨_, rfl, p6, gb, _, _, rfl, rfl, sqt upd_same, sqt (((same_new hp5 _).trans (same_new hp6 _)) _ _ eg), ?_, (fun h => by cases h), (fun _ h => ?_), fun _ _ p7 hp7 => ?_⟩⟩⟩
          · rw [List.length_singleton, hk.1]
            exact Nat.le_of_lt (small1000 (by omega))
          · have h0 := hk.1
            rw [h] at h0
            have : gl = [] := List.length_eq_zero_iff.mp h0.symm
            rw [this] at hgd
            simp only [depL] at hgd
            omega
          · have s56 := fun o => ((same_new hp5 _).trans (same_new hp6 _)).trans (same_new hp7 o)
            have n56 : p5 ≠ p6 := ne_of_none upd_same hp6
            have n57 : p5 ≠ p7 := ne_of_none (by rw [upd_ne n56]; exact upd_same) hp7
            refine ⟨_, rfl, s56 _, p7, _, .lit true :: gl, rfl, upd_same, .cons (.lit (by rw [upd_ne n57, upd_ne n56]; exact upd_same)) (hk.mono (Tp.same (s56 _))), ?_, ?_, ?_, ?_⟩
            · intro z hz
              rcases List.mem_cons.mp hz with e | e
              · rw [e]; exact .lit
              · exact hok z e
            · simp only [depL, It.dep]; omega
            · simp only [szL, It.sz]; omega
            · rw [List.length_cons]; omega
        · exact ⟨_, rfl, Same.refl H4, gb, gys, gl, rfl, eg, hk, hok, hgd, by omega, by omega⟩
      · rintro σ5 H5 ⟨gv, rfl, s5, hg⟩
        have s35 := s4.trans s5
        have hi5 := hi3.mono (Tp.same s35)
        have hsi5 := hsi3.mono (Tp.same s35)
        refine r_asg (r_op ?_)
        refine (evp_lst (σ := [some v, some sv, some (.int m), some (.int t), some (.int (0 + (j : Int))), some (.ref bp), some gv, y4]) (eva_all itp_mo (p_not rfl hi5 ho') (eva_all itp_mo (p_grp (w := "all") (by decide +kernel) hg rfl) (eva_all itp_mo (p_grp (w := "any") (by decide +kernel) hg rfl) (eva_all itp_mo (p_if3 rfl rfl hi5 hsi5 ho' hso hsd hsz) eva_all0)))) (all_mo itp_mo) fun vs H' h => by rw [h.1]; exact (Nat.le_of_ble_eq_true rfl)) H5 (Same.refl H5) _ fun u H6 s6 hu => ?_
        obtain ⟨p6, ys6, rfl, e6, ⟨yl6, yall6⟩, _⟩ := hu
        obtain ⟨nv, hnv, hnm⟩ := atI_mem (xs := ys6) (Int.emod_nonneg (t + (0 + (j : Int))) (by decide : (4 : Int) ≠ 0)) (by rw [yl6]; exact Int.emod_lt_of_pos _ (by decide))
        refine ⟨_, rfl, _, rfl, _, _, rfl, rfl, .inl ⟨_, rfl, _, _, rfl, rfl, (by show (0 : Int) < 4; decide), _, _, _, _, rfl, rfl, sqd e6, hnv, ?_⟩⟩
        obtain ⟨i2, b2, h1, h2, h3, h4⟩ := yall6 nv hnm
        exact ⟨nv, i2, b2, _, _, _, _, rfl, s1.trans (s2.trans (s3.trans (s35.trans s6))), h1, h2, by omega, by omega⟩
    | false =>
      refine iteF ?_
      have bn := fun (w : Str) (H' : Hp) (s' : Same H3 H') (y3 y4 : Option V) (hw : w ∈ (["add", "sub", "mul", "min", "max", "less", "equal"] : List Str)) => p_bin (K := K) (σ := [some v, some sv, some (.int m), some (.int t), some (.int (0 + (j : Int))), some (.ref bp), y3, y4]) (k := 5) (H := H') (s' _ _ (s3 _ _ ebp)) hbys rfl (hi3.mono (Tp.same s')) (hsi3.mono (Tp.same s')) ho' hso hsd hsz hw
      have r3 := Same.refl H3
      refine r_seq (r_asg ?_)
      refine (evp_lst (σ := [some v, some sv, some (.int m), some (.int t), some (.int (0 + (j : Int))), some (.ref bp), y3, y4]) (eva_all itp_mo (p_abs rfl hi3 ho') (eva_all itp_mo (bn "add" H3 r3 y3 y4 (by decide +kernel)) (eva_all itp_mo (bn "sub" H3 r3 y3 y4 (by decide +kernel)) (eva_all itp_mo (bn "mul" H3 r3 y3 y4 (by decide +kernel)) (eva_all itp_mo (bn "min" H3 r3 y3 y4 (by decide +kernel)) (eva_all itp_mo (bn "max" H3 r3 y3 y4 (by decide +kernel)) eva_all0)))))) (all_mo itp_mo) fun vs H' h => by rw [h.1]; exact (Nat.le_of_ble_eq_true rfl)) H3 r3 _ fun u H4 s4 hu => ?_
      obtain ⟨p4, ys4, rfl, e4, ⟨yl4, yall4⟩, _⟩ := hu
      have hi4 := hi3.mono (Tp.same s4)
      have hsi4 := hsi3.mono (Tp.same s4)
      refine ⟨_, rfl, ?_⟩
      refine (evp_lst (σ := [some v, some sv, some (.int m), some (.int t), some (.int (0 + (j : Int))), some (.ref bp), y3, some (.ref p4)]) (eva_all itp_mo (p_dm (w := "div") (by decide +kernel) (by omega) rfl hi4 ho') (eva_all itp_mo (p_dm (w := "mod") (by decide +kernel) (by omega) rfl hi4 ho') (eva_all itp_mo (p_if1 rfl rfl hi4 hsi4 ho' hso hsd hsz) eva_all0))) (all_mo itp_mo) fun vs H' h => by rw [h.1]; exact (Nat.le_of_ble_eq_true rfl)) H4 (Same.refl H4) _ fun u H5 s5 hu => ?_
      obtain ⟨p5, ys5, rfl, e5, ⟨yl5, yall5⟩, _⟩ := hu
      refine ⟨p4, p5, ys4, ys5, rfl, rfl, s5 _ _ e4, e5, by rw [yl4, yl5]; exact (Nat.le_of_ble_eq_true rfl), fun p6 hp6 => ?_⟩
      have s36 := fun o => (s4.trans s5).trans (same_new hp6 o)
      refine ⟨_, rfl, ?_⟩
      refine (evp_lst (σ := [some v, some sv, some (.int m), some (.int t), some (.int (0 + (j : Int))), some (.ref bp), y3, some (.ref p6)]) (eva_all itp_mo (p_if2 rfl rfl (hi3.mono (Tp.same (s36 _))) (hsi3.mono (Tp.same (s36 _))) ho' hso hsd hsz) (eva_all itp_mo (bn "less" _ (s36 _) _ _ (by decide +kernel)) (eva_all itp_mo (bn "equal" _ (s36 _) _ _ (by decide +kernel)) eva_all0))) (all_mo itp_mo) fun vs H' h => by rw [h.1]; exact (Nat.le_of_ble_eq_true rfl)) _ (Same.refl _) _ fun u H7 s7 hu => ?_
      obtain ⟨p7, ys7, rfl, e7, ⟨yl7, yall7⟩, _⟩ := hu
      refine ⟨p6, p7, ys4 ++ ys5, ys7, rfl, rfl, s7 _ _ upd_same, e7, by rw [List.length_append, yl4, yl5, yl7]; exact (Nat.le_of_ble_eq_true rfl), fun p8 hp8 => ?_⟩
      have s8 := fun o => s7.trans (same_new hp8 o)
      have hl12 : ((ys4 ++ ys5) ++ ys7).length = 12 := by rw [List.length_append, List.length_append, yl4, yl5, yl7]
      obtain ⟨nv, hnv, hnm⟩ := atI_mem (xs := (ys4 ++ ys5) ++ ys7) (Int.emod_nonneg (t + (0 + (j : Int)) * 5) (by decide : (12 : Int) ≠ 0)) (by rw [hl12]; exact Int.emod_lt_of_pos _ (by decide))
      refine ⟨_, rfl, _, rfl, _, rfl, _, _, rfl, rfl, .inr ⟨by decide, by decide⟩, _, _, rfl, rfl, .inl ⟨_, rfl, _, _, rfl, rfl, (by show (0 : Int) < 12; decide), _, _, _, _, rfl, rfl, sqd upd_same, hnv, ?_⟩⟩
      have hnp : ∀ o, ItP xs B (i'.dep + 1) (i'.sz + 3) nv (upd H7 p8 o) := fun o => by
        rcases List.mem_append.mp hnm with h | h
        · rcases List.mem_append.mp h with h | h
          · exact itp_mo _ _ _ ((s5.trans (same_new hp6 _)).trans (s8 _)) (yall4 nv h)
          · exact itp_mo _ _ _ ((same_new hp6 _).trans (s8 _)) (yall5 nv h)
        · exact itp_mo _ _ _ (same_new hp8 _) (yall7 nv h)
      obtain ⟨i2, b2, h1, h2, h3, h4⟩ := hnp _
      exact ⟨nv, i2, b2, _, _, _, _, rfl, s1.trans (s2.trans (s3.trans ((s36 _).trans (s8 _)))), h1, h2, by omega, by omega⟩
  · rintro σ H1 ⟨v, i', b', y1, y2, y3, y4, rfl, s1, hi', ho', hd', hz'⟩
    exact ⟨_, rfl, q v i' b' H1 s1 hi' ho' hd' hz'⟩
end
end NL

namespace NL
open PySem PySem.Spec PyProof.Rows L2
section
variable {P : Program} {w : World} {K : PySem.W.Frag} {mg : Str → Option Value} {base : Heap}
/-! ### _law_many -/
def spMany (K : PySem.W.Frag) (B : Nat) : Sp := fun vs H Q _ => ∃ (d n : Addr) (xs : List Str) (c : Int), vs = [.ref d, .ref n, .int c] ∧ Dr H d ∧ Keep K d H n (xs.map V.str) ∧ c.natAbs ≤ B ∧
  ∀ v i H', Go d H H' → ItemIn H' i v → Okx xs B true i → i.dep ≤ 3 → i.sz ≤ 100 → Q v H'
theorem ok_law_many {B : Nat} (hB : 100 ≤ B) (T : Txt K mg) : FnOk P w K mg base CX0 4 T.a_law_many T.d_law_many P_law_many (spMany K B) := by
  have G_law_take := ok_law_take (P := P) (w := w) (base := base) T
  have G_law_leaf := ok_law_leaf (P := P) (w := w) (base := base) hB T
  refine T.F_law_many.ok sc_law_many (fun vs H Q E h => ?_) (fun cdv A outer s H vs Q E hr h => ?_)
  · obtain ⟨d, n, xs, c, rfl, _⟩ := h
    rfl
  obtain ⟨d, n, xs, c, rfl, hD, hk, hc, q⟩ := h
  refine ⟨_, (pss_cons (ps_set (i := 3) sc_law_many.nd rfl (Or.inl rfl) (pe_lst pa_nil))
    (pss_cons (ps_for PassesOwn.never rfl (pi_range1 (by rfl) T.z_range (pa_cons (pe_op op_add pe_int (pe_call G_law_take (hr.mono (by omega)) (by rfl) T.m_law_take T.F_law_take.kp T.b_law_take .nil pass0 (pa_cons (pv 0) (pa_cons pe_int pa_nil)))) pa_nil)) (pg_name (i := 4) sc_law_many.nd rfl (Or.inl rfl))
    (pss_cons (ps_set (i := 5) sc_law_many.nd rfl (Or.inl rfl) (pe_call G_law_leaf (hr.mono (by omega)) (by rfl) T.m_law_leaf T.F_law_leaf.kp T.b_law_leaf .nil pass0 (pa_cons (pv 0) (pa_cons (pv 1) (pa_cons (pv 2) pa_nil)))))
    (pss_one (ps_expr (pe_bm PySem.F.plainAttrs_list PySem.F.slot_list_append PySem.F.type_list_append mt_append (pv 3) (pa_cons (pe_tup (pa_cons (pe_ix ix_list (pe_lst (pa_cons pe_str (pa_cons pe_str pa_nil))) (pe_call G_law_take (hr.mono (by omega)) (by rfl) T.m_law_take T.F_law_take.kp T.b_law_take .nil pass0 (pa_cons (pv 0) (pa_cons pe_int pa_nil))) (fun _ _ => rfl)) (pa_cons (pv 5) (pa_cons (pe_call G_law_leaf (hr.mono (by omega)) (by rfl) T.m_law_leaf T.F_law_leaf.kp T.b_law_leaf .nil pass0 (pa_cons (pv 0) (pa_cons (pv 1) (pa_cons (pv 2) pa_nil)))) pa_nil)))) pa_nil))))))
    (pss_one (ps_ret (pe_tup (pa_cons (pe_ix ix_list (pe_lst (pa_cons pe_str (pa_cons pe_str pa_nil))) (pe_call G_law_take (hr.mono (by omega)) (by rfl) T.m_law_take T.F_law_take.kp T.b_law_take .nil pass0 (pa_cons (pv 0) (pa_cons pe_int pa_nil))) (fun _ _ => rfl)) (pa_cons (pe_callTy call_tuple_of (by rfl) T.z_tuple (by decide +kernel) (pa_cons (pv 3) pa_nil)) pa_nil))))))), ?_⟩
  refine ⟨(Nat.le_of_ble_eq_true rfl), fun pp hpp => ?_⟩
  have npd := new_ne hD hpp
  have g0 := fun o => Go.new (o := o) hD hpp
  refine ⟨_, rfl, d, _, rfl, (g0 _).dr, (by decide), fun r H1 g1 r0 r1 => ?_⟩
  have e1 := g1.at hD hpp
  refine ⟨_, _, rfl, rfl, 4 + r, rfl, by omega, by omega, for_range (lo := 0) (n := (4 + r).toNat) (fun (j : Nat) (σ : L2.St) (H' : Hp) => ∃ (l : List It) (vs : List V) (y1 y2 : Option V), σ = [some (.ref d), some (.ref n), some (.int c), some (.ref pp), y1, y2] ∧ Go d H H' ∧ H' pp = some (.lst vs) ∧ Kids H' l vs ∧ l.length = j ∧ ∀ i ∈ l, Okx xs B true i ∧ i.dep = 2 ∧ i.sz = 3) ?_ ?_ ?_⟩
  · exact ⟨[], [], none, none, rfl, (g0 _).trans g1, e1, kids0, rfl, fun i h => by cases h⟩
  · rintro j σ H2 hj ⟨l, vs, y1, y2, rfl, g2, e2, hks, hl, hok⟩
    refine ⟨_, rfl, _, rfl, _, rfl, d, n, xs, c, rfl, g2.dr, hk.go g2, hc, fun v1 i1 H3 g3 hi1 ho1 hd1 hs1 => ?_⟩
    have e3 := g3.fr pp _ npd e2
    refine ⟨_, rfl, .inl ⟨rfl, _, sqd e3⟩, ?_⟩
    refine ⟨(Nat.le_of_ble_eq_true rfl), fun p4 hp4 => ?_⟩
    have g4 := fun o => Go.new (o := o) g3.dr hp4
    refine ⟨_, rfl, d, _, rfl, (g4 _).dr, (by decide), fun u H5 g5 u0 u1 => ?_⟩
    obtain ⟨wd, hw, hm⟩ := atI_map (f := V.str) (xs := ["less", "equal"]) u0 u1
    refine ⟨_, _, _, _, rfl, rfl, sqd (g5.at g3.dr hp4), hw, _, rfl, ?_⟩
    have g35 := (g4 _).trans g5
    refine ⟨_, rfl, _, rfl, _, rfl, d, n, xs, c, rfl, g5.dr, ((hk.go g2).go g3).go g35, hc, fun v2 i2 H6 g6 hi2 ho2 hd2 hs2 => ?_⟩
    refine ⟨(Nat.le_of_ble_eq_true rfl), fun p7 hp7 => ?_⟩
    have g7 := fun o => Go.new (o := o) g6.dr hp7
    have g37 := fun o => g35.trans (g6.trans (g7 o))
    have e7 := fun o => (g37 o).fr pp _ npd e3
    refine ⟨pp, _, _, rfl, rfl, e7 _, ?_, ?_⟩
    · rw [hks.1]
      exact small1000 (by omega)
    · have t8 := fun o => tp_put (o := o) (e7 (.tup [.str wd, v1, v2]))
      refine ⟨l ++ [.bin wd i1 i2], _, _, _, rfl, (g2.trans (g3.trans (g37 _))).put2 hpp npd, upd_same, ?_, ?_, ?_⟩
      · exact ((hks.mono ((g3.trans (g37 _)).tp g2.dr)).mono (t8 _)).snoc (.bin (t8 _ _ _ upd_same) ((hi1.go (g37 _) g3.dr).mono (t8 _)) ((hi2.go (g7 _) g6.dr).mono (t8 _)))
      · rw [List.length_append, hl] <;> rfl
      · intro i hi
        rcases List.mem_append.mp hi with h | h
        · exact hok i h
        · rw [List.mem_singleton.mp h]
          exact ⟨.cmp hm ho1 ho2, by rw [It.dep]; omega, by rw [It.sz]; omega⟩
  · rintro σ H2 ⟨l, vs, y1, y2, rfl, g2, e2, hks, hl, hok⟩
    refine ⟨(Nat.le_of_ble_eq_true rfl), fun p4 hp4 => ?_⟩
    have g4 := fun o => Go.new (o := o) g2.dr hp4
    refine ⟨_, rfl, d, _, rfl, (g4 _).dr, (by decide), fun u H5 g5 u0 u1 => ?_⟩
    obtain ⟨wd, hw, hm⟩ := atI_map (f := V.str) (xs := ["all", "any"]) u0 u1
    have g25 := (g4 _).trans g5
    have e5 := g25.fr pp _ npd e2
    refine ⟨_, _, _, _, rfl, rfl, sqd (g5.at g2.dr hp4), hw, _, rfl, pp, vs, rfl, .inl ⟨sqd e5, fun tp htp => ?_⟩⟩
    have gt := fun o => Go.new (o := o) g5.dr htp
    refine ⟨(Nat.le_of_ble_eq_true rfl), fun rp hrp => ?_⟩
    have gr := fun o => Go.new (o := o) (gt _).dr hrp
    have nt : tp ≠ rp := ne_of_none upd_same hrp
    have hz : szL l ≤ l.length * 3 := szL_le l fun i hi => by rw [(hok i hi).2.2]; exact Nat.le_refl 3
    have hd : depL l ≤ 2 := depL_le l fun i hi => by rw [(hok i hi).2.1]; exact Nat.le_refl 2
    have gg := fun o => g25.trans ((gt _).trans (gr o))
    exact q _ (.grp wd l) _ (g2.trans (gg _)) ((hks.mono ((gg _).tp g2.dr)).ok upd_same (by rw [upd_ne nt]; exact upd_same)) (.grp hm (by omega) fun i hi => (hok i hi).1) (by rw [It.dep]; omega) (by rw [It.sz]; omega)
end
end NL

namespace NL
open PySem PySem.Spec PyProof.Rows L2
/-! ### the written form, and its tokens -/
/-- what a name in a text is at least -/
structure Nw (z : Str) : Prop where
  wd : Wd z
  len : z.length ≤ 250
theorem Nam.nw {z : Str} (h : Nam z) : Nw z := ⟨h.wd, by have := h.len; omega⟩
def itxt (n : Int) : Str := Str.ofString (toString n)
mutual
def It.wr : It → Str
  | .num n => itxt n
  | .name x => x
  | .lit b => bstr b
  | .un w a => w ++ "(" ++ Str.join ", " [a.wr] ++ ")"
  | .dm w a n => w ++ "(" ++ Str.join ", " [a.wr, itxt n] ++ ")"
  | .bin w a b => w ++ "(" ++ Str.join ", " [a.wr, b.wr] ++ ")"
  | .tri a b c => "if" ++ "(" ++ Str.join ", " [a.wr, b.wr, c.wr] ++ ")"
  | .grp w l => w ++ "(" ++ Str.join ", " (wrL l) ++ ")"
def wrL : List It → List Str
  | [] => []
  | a :: r => a.wr :: wrL r
end
theorem wrL_map : ∀ l : List It, wrL l = l.map It.wr
  | [] => by rw [wrL]; rfl
  | a :: r => by rw [wrL, wrL_map r]; rfl
/-- rows of tokens with a comma between two of them -/
def sepF : List (List Str) → List Str
  | [] => []
  | a :: r => a ++ r.flatMap fun t => ("," : Str) :: t
theorem sepF_snoc (l : List (List Str)) (t : List Str) : sepF (l ++ [t]) = sepF l ++ (if l = [] then ([] : List Str) else [","]) ++ t := by
  cases l with
  | nil => simp [sepF]
  | cons a r => simp [sepF, List.flatMap_append]
mutual
def It.tk : It → List Str
  | .num n => [itxt n]
  | .name x => [x]
  | .lit b => [bstr b]
  | .un w a => ([w, "("] : List Str) ++ sepF [a.tk] ++ ([")"] : List Str)
  | .dm w a n => ([w, "("] : List Str) ++ sepF [a.tk] ++ ([",", itxt n] : List Str) ++ ([")"] : List Str)
  | .bin w a b => ([w, "("] : List Str) ++ sepF [a.tk, b.tk] ++ ([")"] : List Str)
  | .tri a b c => (["if", "("] : List Str) ++ sepF [a.tk, b.tk, c.tk] ++ ([")"] : List Str)
  | .grp w l => ([w, "("] : List Str) ++ sepF (tkL l) ++ ([")"] : List Str)
def tkL : List It → List (List Str)
  | [] => []
  | a :: r => a.tk :: tkL r
end
theorem tkL_map : ∀ l : List It, tkL l = l.map It.tk
  | [] => by rw [tkL]; rfl
  | a :: r => by rw [tkL, tkL_map r]; rfl
/-- behind the parts: the divisor -/
def It.tailT : It → List Str
  | .dm _ _ n => [",", itxt n]
  | _ => []
def It.tailW : It → List Str
  | .dm _ _ n => [itxt n]
  | _ => []
theorem tk_eq {i : It} (h : i.cls ≠ 0) : i.tk = ([i.word, "("] : List Str) ++ sepF (i.kids.map It.tk) ++ i.tailT ++ ([")"] : List Str) := by
  cases i with
  | num _ => exact absurd rfl h
  | name _ => exact absurd rfl h
  | lit _ => exact absurd rfl h
  | un w a => rw [It.tk]; simp [It.word, It.kids, It.tailT]
  | dm w a n => rw [It.tk]; simp [It.word, It.kids, It.tailT]
  | bin w a b => rw [It.tk]; simp [It.word, It.kids, It.tailT]
  | tri a b c => rw [It.tk]; simp [It.word, It.kids, It.tailT]
  | grp w l => rw [It.tk, tkL_map]; simp [It.word, It.kids, It.tailT]
theorem wr_eq {i : It} (h : i.cls ≠ 0) : i.wr = i.word ++ "(" ++ Str.join ", " (i.kids.map It.wr ++ i.tailW) ++ ")" := by
  cases i with
  | num _ => exact absurd rfl h
  | name _ => exact absurd rfl h
  | lit _ => exact absurd rfl h
  | un w a => rw [It.wr]; simp [It.word, It.kids, It.tailW]
  | dm w a n => rw [It.wr]; simp [It.word, It.kids, It.tailW]
  | bin w a b => rw [It.wr]; simp [It.word, It.kids, It.tailW]
  | tri a b c => rw [It.wr]; simp [It.word, It.kids, It.tailW]
  | grp w l => rw [It.wr, wrL_map]; simp [It.word, It.kids, It.tailW]
/-! ### what the tokens are worth together -/
def sub (t : Str) : Str := if t = "," then ", " else t
/-- the signs of the tokens, each comma with a space -/
def ct (ts : List Str) : List Nat := ts.flatMap fun t => (sub t).cps.toList
theorem ct_app (a b : List Str) : ct (a ++ b) = ct a ++ ct b := List.flatMap_append
theorem ct_cons (a : Str) (b : List Str) : ct (a :: b) = (sub a).cps.toList ++ ct b := rfl
theorem ct_nil : ct [] = [] := rfl
theorem join_codes : ∀ l : List Str, (Str.join "" l).cps.toList = l.flatMap fun t => t.cps.toList
  | [] => rfl
  | [x] => by
    show x.cps.toList = _
    simp
  | x :: y :: r => by
    have e : Str.join "" (x :: y :: r) = x ++ "" ++ Str.join "" (y :: r) := rfl
    rw [e, app_list, app_list, join_codes (y :: r), show ("" : Str).cps.toList = [] by decide +kernel, List.append_nil]
    rfl
theorem ct_join (ts : List Str) : (Str.join "" (ts.map sub)).cps.toList = ct ts := by
  rw [join_codes, List.flatMap_map]
  rfl
theorem sub_ne {t : Str} (h : t ≠ ",") : sub t = t := if_neg h
theorem ct_sep {f : It → List Str} {g : It → Str} : ∀ (l : List It), (∀ i ∈ l, ct (f i) = (g i).cps.toList) → ct (sepF (l.map f)) = (Str.join ", " (l.map g)).cps.toList
  | [], _ => rfl
  | [a], h => by
    show ct (f a ++ []) = (g a).cps.toList
    rw [List.append_nil]
    exact h a List.mem_cons_self
  | a :: b :: r, h => by
    have e : Str.join ", " ((a :: b :: r).map g) = g a ++ ", " ++ Str.join ", " ((b :: r).map g) := rfl
    have ih := ct_sep (b :: r) fun i hi => h i (List.mem_cons_of_mem _ hi)
    have e2 : sepF ((a :: b :: r).map f) = f a ++ ("," : Str) :: sepF ((b :: r).map f) := by
      show f a ++ ((("," : Str) :: f b) ++ _) = _
      rw [List.cons_append]
      rfl
    rw [e, app_list, app_list, e2, ct_app, h a List.mem_cons_self, ct_cons, ih]
    rw [show sub "," = ", " by decide +kernel, List.append_assoc]
theorem itxt_ne (n : Int) : itxt n ≠ "," := fun h => by
  have h44 := int_text_free' 44 ⟨by decide, by decide⟩ n
  have h2 : (44 : Nat) ∈ (itxt n).cps.toList := by rw [h]; decide +kernel
  exact h44 h2
theorem wd_ne {z : Str} (h : Wd z) : z ≠ "," := fun e => by
  rw [e] at h
  exact absurd h (by decide +kernel)
theorem word_wd {xs : List Str} {B : Nat} {b : Bool} {i : It} (h : Okx xs B b i) : Wd i.word ∧ i.word.length ≤ 6 := by
  have g : ∀ z ∈ (["number", "name", "true", "false", "abs", "not", "div", "mod", "add", "sub", "mul", "min", "max", "less", "equal", "if", "all", "any"] : List Str), Wd z ∧ z.length ≤ 6 := by decide +kernel
  refine g _ ?_
  simp only [List.mem_cons, List.not_mem_nil, or_false]
  cases h with
  | num _ => simp [It.word]
  | name _ => simp [It.word]
  | lit => rename_i b; cases b <;> simp [It.word, bstr]
  | abs _ => simp [It.word]
  | not _ => simp [It.word]
  | dm hw _ _ _ =>
    simp only [List.mem_cons, List.not_mem_nil, or_false] at hw
    rcases hw with rfl | rfl <;> simp [It.word]
  | bin hw _ _ =>
    simp only [List.mem_cons, List.not_mem_nil, or_false] at hw
    rcases hw with rfl | rfl | rfl | rfl | rfl <;> simp [It.word]
  | cmp hw _ _ =>
    simp only [List.mem_cons, List.not_mem_nil, or_false] at hw
    rcases hw with rfl | rfl <;> simp [It.word]
  | tri _ _ _ => simp [It.word]
  | grp hw _ _ =>
    simp only [List.mem_cons, List.not_mem_nil, or_false] at hw
    rcases hw with rfl | rfl <;> simp [It.word]
theorem kids_rec {xs : List Str} {B : Nat} {p : It → Prop} (leaf : ∀ b i, Okx xs B b i → i.cls = 0 → p i) (node : ∀ b i, Okx xs B b i → i.cls ≠ 0 → (∀ j ∈ i.kids, p j) → p i) {b : Bool} {i : It} (h : Okx xs B b i) : p i := by
  induction h with
  | num h => exact leaf _ _ (.num h) rfl
  | name h => exact leaf _ _ (.name h) rfl
  | lit => exact leaf _ _ .lit rfl
  | abs h ih =>
    refine node _ _ (.abs h) (by simp [It.cls]) fun j hj => ?_
    simp only [It.kids, List.mem_cons, List.not_mem_nil, or_false] at hj
    rw [hj]; exact ih
  | not h ih =>
    refine node _ _ (.not h) (by simp [It.cls]) fun j hj => ?_
    simp only [It.kids, List.mem_cons, List.not_mem_nil, or_false] at hj
    rw [hj]; exact ih
  | dm hw h h1 h2 ih =>
    refine node _ _ (.dm hw h h1 h2) (by simp [It.cls]) fun j hj => ?_
    simp only [It.kids, List.mem_cons, List.not_mem_nil, or_false] at hj
    rw [hj]; exact ih
  | bin hw h g ih jh =>
    refine node _ _ (.bin hw h g) (by simp [It.cls]) fun j hj => ?_
    simp only [It.kids, List.mem_cons, List.not_mem_nil, or_false] at hj
    rcases hj with e | e <;> rw [e] <;> assumption
  | cmp hw h g ih jh =>
    refine node _ _ (.cmp hw h g) (by simp [It.cls]) fun j hj => ?_
    simp only [It.kids, List.mem_cons, List.not_mem_nil, or_false] at hj
    rcases hj with e | e <;> rw [e] <;> assumption
  | tri h g k ih jh kh =>
    refine node _ _ (.tri h g k) (by simp [It.cls]) fun j hj => ?_
    simp only [It.kids, List.mem_cons, List.not_mem_nil, or_false] at hj
    rcases hj with e | e | e <;> rw [e] <;> assumption
  | grp hw hl h ih => exact node _ _ (.grp hw hl h) (by simp [It.cls]) (fun j hj => ih j hj)
/-- THE EQUATION: the tokens, glued, are the written form -/
theorem ct_tk {xs : List Str} {B : Nat} (hx : ∀ x ∈ xs, Nw x) {b : Bool} {i : It} (h : Okx xs B b i) : ct i.tk = i.wr.cps.toList := by
  refine kids_rec (p := fun i => ct i.tk = i.wr.cps.toList) (fun b i h h0 => ?_) (fun b i h h0 ih => ?_) h
  · cases h with
    | num _ => rw [It.tk, It.wr, ct_cons, ct_nil, List.append_nil, sub_ne (itxt_ne _)]
    | name hm => rw [It.tk, It.wr, ct_cons, ct_nil, List.append_nil, sub_ne (wd_ne (hx _ hm).wd)]
    | lit => rename_i b; cases b <;> (rw [It.tk, It.wr]; decide +kernel)
    | abs _ => cases h0
    | not _ => cases h0
    | dm _ _ _ _ => cases h0
    | bin _ _ _ => cases h0
    | cmp _ _ _ => cases h0
    | tri _ _ _ => cases h0
    | grp _ _ _ => cases h0
  · rw [tk_eq h0, wr_eq h0]
    have hs := ct_sep i.kids ih
    have hw := sub_ne (wd_ne (word_wd h).1)
    have e1 : ct ([i.word, "("] : List Str) = i.word.cps.toList ++ ("(" : Str).cps.toList := by
      rw [ct_cons, ct_cons, ct_nil, List.append_nil, hw, show sub "(" = "(" by decide +kernel]
    have e2 : ct ([")"] : List Str) = (")" : Str).cps.toList := by decide +kernel
    rw [ct_app, ct_app, ct_app, e1, e2, hs, app_list, app_list, app_list]
    congr 1
    rw [List.append_assoc]
    congr 1
    cases i with
    | dm w a n =>
      show (Str.join ", " [a.wr]).cps.toList ++ ct ([",", itxt n] : List Str) = (Str.join ", " [a.wr, itxt n]).cps.toList
      have e3 : Str.join ", " [a.wr, itxt n] = a.wr ++ ", " ++ itxt n := rfl
      have e4 : Str.join ", " [a.wr] = a.wr := rfl
      rw [e3, e4, ct_cons, ct_cons, ct_nil, sub_ne (itxt_ne n), app_list, app_list, show sub "," = ", " by decide +kernel, List.append_nil, List.append_assoc]
    | _ => simp [It.tailT, It.tailW, ct_nil]
/-! ### sizes -/
theorem itxt_len {n : Int} (h : n.natAbs < 10 ^ 61) : (itxt n).length ≤ 62 := by
  have h1 := int_text_length_le10 (by decide : 0 < 61) h
  have h2 : (itxt n).length = (toString n).length := PySem.ofString_length _
  omega
end NL

namespace NL
open PySem PySem.Spec PyProof.Rows L2
theorem sz_eq (i : It) : i.sz = 1 + szL i.kids := by
  cases i <;> simp only [It.sz, It.kids, szL] <;> omega
theorem szL_map (l : List It) : szL l = (l.map It.sz).sum := by
  induction l with
  | nil => rw [szL]; rfl
  | cons a r ih => rw [szL, ih, List.map_cons, List.sum_cons]
theorem join_len (sep : Str) : ∀ l : List Str, (Str.join sep l).length ≤ (l.map fun t => t.length + sep.length).sum
  | [] => Nat.zero_le _
  | [x] => by
    show x.length ≤ x.length + sep.length + 0
    omega
  | x :: y :: r => by
    have e : Str.join sep (x :: y :: r) = x ++ sep ++ Str.join sep (y :: r) := rfl
    have ih := join_len sep (y :: r)
    rw [e, len_app, len_app, List.map_cons, List.sum_cons]
    omega
theorem sum_le {f g : It → Nat} : ∀ l : List It, (∀ i ∈ l, f i ≤ g i) → (l.map f).sum ≤ (l.map g).sum
  | [], _ => Nat.le_refl _
  | a :: r, h => by
    rw [List.map_cons, List.map_cons, List.sum_cons, List.sum_cons]
    have h1 := h a List.mem_cons_self
    have h2 := sum_le r fun i hi => h i (List.mem_cons_of_mem _ hi)
    omega
theorem sum_mul (k : Nat) : ∀ l : List It, (l.map fun i => k * i.sz).sum = k * szL l
  | [] => by rw [szL]; rfl
  | a :: r => by rw [List.map_cons, List.sum_cons, sum_mul k r, szL, Nat.mul_add]
/-- ints of these items have short texts -/
theorem tail_len {xs : List Str} {B : Nat} (hB : B < 10 ^ 60 + 1) {b : Bool} {i : It} (h : Okx xs B b i) : (i.tailW.map fun t => t.length + 2).sum ≤ 64 ∧ i.tailT.length ≤ 2 := by
  cases h with
  | dm hw h h1 h2 =>
    rename_i n
    have hn := itxt_len (n := n) (by have e : (10 : Nat) ^ 61 = 10 * 10 ^ 60 := by decide
                                     omega)
    show (itxt n).length + 2 + 0 ≤ 64 ∧ 2 ≤ 2
    omega
  | _ => exact ⟨Nat.zero_le _, Nat.zero_le _⟩
theorem wr_len {xs : List Str} {B : Nat} (hx : ∀ x ∈ xs, Nw x) (hB : B < 10 ^ 60 + 1) {b : Bool} {i : It} (h : Okx xs B b i) : i.wr.length + 10 ≤ 300 * i.sz ∧ i.tk.length + 2 ≤ 10 * i.sz := by
  refine kids_rec (p := fun i => i.wr.length + 10 ≤ 300 * i.sz ∧ i.tk.length + 2 ≤ 10 * i.sz) (fun b i h h0 => ?_) (fun b i h h0 ih => ?_) h
  · cases h with
    | num hn =>
      rename_i n
      have hn := itxt_len (n := n) (by have e : (10 : Nat) ^ 61 = 10 * 10 ^ 60 := by decide
                                       omega)
      rw [It.wr, It.sz, It.tk, List.length_singleton]
      omega
    | name hm =>
      have := (hx _ hm).len
      rw [It.wr, It.sz, It.tk, List.length_singleton]
      omega
    | lit =>
      rename_i b
      rw [It.wr, It.sz, It.tk, List.length_singleton]
      have : (bstr b).length ≤ 10 := by cases b <;> decide +kernel
      omega
    | abs _ => cases h0
    | not _ => cases h0
    | dm _ _ _ _ => cases h0
    | bin _ _ _ => cases h0
    | cmp _ _ _ => cases h0
    | tri _ _ _ => cases h0
    | grp _ _ _ => cases h0
  · have hw := (word_wd h).2
    obtain ⟨t1, t2⟩ := tail_len hB h
    have hz := sz_eq i
    have l1 : ("(" : Str).length = 1 ∧ (")" : Str).length = 1 ∧ (", " : Str).length = 2 := by decide +kernel
    constructor
    · rw [wr_eq h0, len_app, len_app, len_app]
      have j := join_len ", " (i.kids.map It.wr ++ i.tailW)
      rw [l1.2.2, List.map_append, List.sum_append, List.map_map] at j
      have k := sum_le (f := (fun t : Str => t.length + 2) ∘ It.wr) (g := fun i => 300 * i.sz) i.kids fun i hi => by
        have := (ih i hi).1
        show i.wr.length + 2 ≤ 300 * i.sz
        omega
      rw [sum_mul] at k
      omega
    · rw [tk_eq h0, List.length_append, List.length_append, List.length_append]
      have hs : (sepF (i.kids.map It.tk)).length ≤ (i.kids.map fun i => i.tk.length + 1).sum := by
        cases i.kids with
        | nil => exact Nat.zero_le _
        | cons a r =>
          show (a.tk ++ (r.map It.tk).flatMap _).length ≤ _
          rw [List.length_append, List.length_flatMap, List.map_cons, List.sum_cons, List.map_map]
          have : ((fun a => (("," : Str) :: a).length) ∘ It.tk) = fun i : It => i.tk.length + 1 := rfl
          rw [this]
          omega
      have k := sum_le (f := fun i : It => i.tk.length + 1) (g := fun i => 10 * i.sz) i.kids fun i hi => by
        have := (ih i hi).2
        omega
      rw [sum_mul] at k
      have e1 : ([i.word, "("] : List Str).length = 2 ∧ ([")"] : List Str).length = 1 := ⟨rfl, rfl⟩
      omega
theorem log_ok {n : Int} (h : n.natAbs < 10 ^ 61) : n.natAbs.log2 < 1920 := by
  by_cases h0 : n.natAbs = 0
  · rw [h0]; decide
  · exact (Nat.log2_lt h0).mpr (Nat.lt_of_lt_of_le h (by decide))
end NL

namespace NL
open PySem PySem.Spec PyProof.Rows L2
theorem ItemIn.leaf {H : Hp} {i : It} {a : Addr} (h : ItemIn H i (.ref a)) (h3 : i.cls = 0) :
    (∃ n, i = .num n ∧ H a = some (.tup [.str "number", .int n])) ∨ (∃ x, i = .name x ∧ H a = some (.tup [.str "name", .str x])) ∨ ∃ b, i = .lit b ∧ H a = some (.tup [.str (bstr b)]) := by
  cases h with
  | num e => exact .inl ⟨_, rfl, e⟩
  | name e => exact .inr (.inl ⟨_, rfl, e⟩)
  | lit e => exact .inr (.inr ⟨_, rfl, e⟩)
  | un _ _ => cases h3
  | dm _ _ => cases h3
  | bin _ _ _ => cases h3
  | tri _ _ _ _ => cases h3
  | grp _ _ _ _ => cases h3
theorem strE {a b : Str} : decide (V.str a = V.str b) = decide (a = b) := decide_eq_decide.mpr ⟨V.str.inj, fun h => by rw [h]⟩
/-- an item that is no leaf has another word -/
theorem word_ne {xs : List Str} {B : Nat} {b : Bool} {i : It} (h : Okx xs B b i) (h0 : i.cls ≠ 0) {z : Str} (hz : z ∈ (["number", "name", "true", "false"] : List Str)) : decide (V.str i.word = V.str z) = false := by
  rw [strE]
  have c := (word_cls h).1
  have e : (i.cls == 0) = false := by simpa using h0
  rw [e] at c
  refine decide_eq_false fun q => ?_
  rw [← q] at hz
  exact absurd (show wl i.word _ = true from decide_eq_true hz) (by rw [c]; exact Bool.false_ne_true)
theorem in_divs {i : It} : (i.cls == 2) = true ↔ i.cls = 2 := by simp
section
variable {P : Program} {w : World} {K : PySem.W.Frag} {mg : Str → Option Value} {base : Heap}
/-! ### parts_in -/
def spParts : Sp := fun vs H Q _ => ∃ (v : V) (i : It) (xs : List Str) (B : Nat) (b : Bool), vs = [v] ∧ ItemIn H i v ∧ Okx xs B b i ∧ ∀ p ys H', Same H H' → H' p = some (.tup ys) → Kids H' i.kids ys → Q (.ref p) H'
theorem ok_parts_in (T : Txt K mg) : FnOk P w K mg base CX0 1 T.aparts_in T.dparts_in Pparts_in spParts := by
  refine T.Fparts_in.ok scparts_in (fun vs H Q E h => ?_) (fun cdv A outer s H vs Q E hr h => ?_)
  · obtain ⟨v, i, xs, B, b, rfl, _⟩ := h
    rfl
  obtain ⟨v, i, xs, B, b, rfl, hi, ho, q⟩ := h
  obtain ⟨a, rfl⟩ := hi.ref
  obtain ⟨r, ha⟩ := hi.head
  obtain ⟨c0, cn, ct_, c1, c2⟩ := word_cls ho
  refine ⟨_, (pss_cons (ps_set (i := 1) scparts_in.nd rfl (Or.inl rfl) (pe_ix ix_tup (pv 0) pe_int (fun _ _ => rfl)))
    (pss_cons (ps_if (pt_cmpR op_in_seq (pv 1) (pe_tup (pa_cons pe_str (pa_cons pe_str pa_nil))) (by rfl))
    (pss_one (ps_ret (pe_tup pa_nil)))
    pss_nil)
    (pss_cons (ps_if (pt_cmpR op_in_seq (pv 1) (pe_tup (pa_cons pe_str (pa_cons pe_str pa_nil))) (by rfl))
    (pss_one (ps_ret (pe_slice sl_tup (pv 0) (po_some pe_int) (po_some pe_int))))
    pss_nil)
    (pss_cons (ps_if (pt_cmpR op_in_seq (pv 1) (pe_tup (pa_cons pe_str (pa_cons pe_str pa_nil))) (by rfl))
    (pss_one (ps_ret (pe_ix ix_tup (pv 0) pe_int (fun _ _ => rfl))))
    pss_nil)
    (pss_one (ps_ret (pe_slice sl_tup (pv 0) (po_some pe_int) po_none))))))), ?_⟩
  refine ⟨_, rfl, a, _, 0, _, rfl, rfl, sqt ha, atI0, ?_⟩
  refine ⟨_, rfl, (Nat.le_of_ble_eq_true rfl), fun p1 hp1 => ?_⟩
  have s1 := fun o => same_new hp1 o
  refine ⟨p1, _, rfl, .inr (sqt upd_same), rfl, (by decide +kernel), _, rfl, ?_⟩
  by_cases hnn : (i.cls == 0 && !b) = true
  · refine ifT (inT (ys := ["number", "name"]) rfl (by rw [cn]; exact hnn)) ?_
    have h0 : i.cls = 0 := by simp at hnn; exact hnn.1
    refine ⟨(Nat.le_of_ble_eq_true rfl), fun p hp => ?_⟩
    exact q p [] _ ((s1 _).trans (same_new hp _)) upd_same (by rw [kids_leaf h0]; exact kids0)
  refine ifF (inT (ys := ["number", "name"]) rfl (by rw [cn]; simpa using hnn)) ?_
  refine ⟨_, rfl, (Nat.le_of_ble_eq_true rfl), fun p2 hp2 => ?_⟩
  have s2 := fun o => (s1 _).trans (same_new hp2 o)
  refine ⟨p2, _, rfl, .inr (sqt upd_same), rfl, (by decide +kernel), _, rfl, ?_⟩
  by_cases h2 : i.cls = 2
  · refine ifT (inT (ys := ["div", "mod"]) rfl (by rw [c2, h2] <;> rfl)) ?_
    obtain ⟨x, j, n, e1, hj, ej⟩ := hi.divs h2
    refine ⟨_, rfl, 1, rfl, 2, rfl, a, _, rfl, sqt (s2 _ _ _ e1), not_whole _ _ _, fun p hp => ?_⟩
    refine q p [x] _ ((s2 _).trans (same_new hp _)) upd_same ?_
    rw [ej]
    exact kids1 (hj.mono (Tp.same ((s2 _).trans (same_new hp _))))
  refine ifF (inT (ys := ["div", "mod"]) rfl (by rw [c2]; simpa using h2)) ?_
  refine ⟨_, rfl, (Nat.le_of_ble_eq_true rfl), fun p3 hp3 => ?_⟩
  have s3 := fun o => (s2 _).trans (same_new hp3 o)
  refine ⟨p3, _, rfl, .inr (sqt upd_same), rfl, (by decide +kernel), _, rfl, ?_⟩
  by_cases h1 : i.cls = 1
  · refine ifT (inT (ys := ["all", "any"]) rfl (by rw [c1, h1] <;> rfl)) ?_
    obtain ⟨b2, ys, e1, e2, hk⟩ := hi.group h1
    refine ⟨_, rfl, a, _, 1, _, rfl, rfl, sqt (s3 _ _ _ e1), atI1, ?_⟩
    exact q b2 ys _ (s3 _) (s3 _ _ _ e2) (hk.mono (Tp.same (s3 _)))
  refine ifF (inT (ys := ["all", "any"]) rfl (by rw [c1]; simpa using h1)) ?_
  by_cases h0 : i.cls = 0
  · -- true, false: nothing stands behind the word
    rcases hi.leaf h0 with ⟨n, e, e1⟩ | ⟨n, e, e1⟩ | ⟨n, e, e1⟩
    · subst e; cases ho; exact absurd rfl hnn
    · subst e; cases ho; exact absurd rfl hnn
    · refine ⟨_, rfl, 1, rfl, a, _, rfl, sqt (s3 _ _ _ e1), not_whole _ _ _, fun p hp => ?_⟩
      rw [cut_tail]
      exact q p [] _ ((s3 _).trans (same_new hp _)) upd_same (by rw [kids_leaf h0]; exact kids0)
  · obtain ⟨ys, e1, hk⟩ := hi.rest (by rcases cls_le i with h | h | h | h <;> first | exact absurd h h0 | exact absurd h h1 | exact absurd h h2 | exact h)
    refine ⟨_, rfl, 1, rfl, a, _, rfl, sqt (s3 _ _ _ e1), not_whole _ _ _, fun p hp => ?_⟩
    rw [cut_tail]
    exact q p ys _ ((s3 _).trans (same_new hp _)) upd_same (hk.mono (Tp.same ((s3 _).trans (same_new hp _))))
/-! ### _written -/
structure Fit (xs : List Str) (B n : Nat) (b : Bool) (i : It) : Prop where
  ok : Okx xs B b i
  nm : ∀ x ∈ xs, Nw x
  bd : B < 10 ^ 60 + 1
  dp : i.dep ≤ n
  sz : i.sz ≤ 1000
theorem Fit.kid {xs : List Str} {B n : Nat} {b : Bool} {i j : It} (f : Fit xs B (n + 1) b i) (h : j ∈ i.kids) : ∃ b', Fit xs B n b' j := by
  obtain ⟨b', ho⟩ := kids_ok f.ok j h
  have h1 := depL_in h
  have h2 := @kids_dep i
  have h3 := sz_eq i
  have h4 : j.sz ≤ szL i.kids := by
    have : ∀ l : List It, j ∈ l → j.sz ≤ szL l := fun l => by
      induction l with
      | nil => intro h; cases h
      | cons a r ih =>
        intro h
        rw [szL]
        rcases List.mem_cons.mp h with e | e
        · rw [e]; omega
        · have := ih e
          omega
    exact this _ h
  have h5 := f.dp
  have h6 := f.sz
  exact ⟨b', ho, f.nm, f.bd, by omega, by omega⟩
theorem big {n : Nat} (h : n ≤ 1000000) : n ≤ sizeLine := Nat.le_trans h (by decide)
theorem big' {n : Nat} (h : n ≤ 1000000) : n < sizeLine := Nat.lt_of_le_of_lt h (by decide)
theorem strV {Q : VK} {a b : Str} {H : Hp} (h : a = b) (q : Q (.str b) H) : Q (.str a) H := by rw [h]; exact q
def spWr (n : Nat) : Sp := fun vs H Q _ => ∃ (v : V) (i : It) (xs : List Str) (B : Nat) (b : Bool), vs = [v] ∧ ItemIn H i v ∧ Fit xs B n b i ∧ ∀ H', Same H H' → Q (.str i.wr) H'
theorem ok_written (T : Txt K mg) : ∀ n : Nat, FnOk P w K mg base CX0 (n + 2) T.a_written T.d_written P_written (spWr n)
  | 0 => by
    have no : ∀ vs H Q E, ¬ spWr 0 vs H Q E := fun vs H Q E ⟨v, i, xs, B, b, _, _, f, _⟩ => by
      have := dep_pos i
      have := f.dp
      omega
    exact ⟨fun vs H Q E h => absurd h (no vs H Q E), fun A outer s H args us vs Q E _ _ _ _ h => absurd h (no vs H Q E)⟩
  | n + 1 => by
    have G_written := ok_written T n
    have Gparts_in := ok_parts_in (P := P) (w := w) (base := base) T
    refine T.F_written.ok sc_written (fun vs H Q E h => ?_) (fun cdv A outer s H vs Q E hr h => ?_)
    · obtain ⟨v, i, xs, B, b, rfl, _⟩ := h
      rfl
    obtain ⟨v, i, xs, B, b, rfl, hi, hf, q⟩ := h
    obtain ⟨a, rfl⟩ := hi.ref
    obtain ⟨r, ha⟩ := hi.head
    have ho := hf.ok
    obtain ⟨c0, cn, ct_, c1, c2⟩ := word_cls ho
    refine ⟨_, (pss_cons (ps_set (i := 1) sc_written.nd rfl (Or.inl rfl) (pe_ix ix_tup (pv 0) pe_int (fun _ _ => rfl)))
    (pss_cons (ps_if (pt_cmpR op_eq (pv 1) pe_str (nomark _))
    (pss_one (ps_ret (pe_callTy call_str_int (by rfl) T.z_str (by decide +kernel) (pa_cons (pe_ix ix_tup (pv 0) pe_int (fun _ _ => rfl)) pa_nil))))
    pss_nil)
    (pss_cons (ps_if (pt_cmpR op_eq (pv 1) pe_str (nomark _))
    (pss_one (ps_ret (pe_ix ix_tup (pv 0) pe_int (fun _ _ => rfl))))
    pss_nil)
    (pss_cons (ps_if (pt_cmpR op_in_seq (pv 1) (pe_tup (pa_cons pe_str (pa_cons pe_str pa_nil))) (by rfl))
    (pss_one (ps_ret (pv 1)))
    pss_nil)
    (pss_cons (ps_setLc (i := 2) (own := [("part", 3)]) (g := (gName 3)) (tt := tYes) rfl sc_written.nd rfl rfl (sw_true rfl rfl rfl (by decide +kernel)) (pi_tup (pe_call Gparts_in (hr.mono (by omega)) (by rfl) T.mparts_in T.Fparts_in.kp T.bparts_in .nil pass0 (pa_cons (pv 0) pa_nil))) (blkOk_by (N := N_written) (sc := defScope s_written) (by decide +kernel)) (fun _ _ _ _ _ => (pg_name (i := 3) sc_written.nd rfl (Or.inl rfl))) (fun _ _ _ _ _ => pts_nil) (fun _ _ _ _ _ => (pe_call G_written (hr.mono (by omega)) (by rfl) T.m_written T.F_written.kp T.b_written .nil pass0 (pa_cons (pv 3) pa_nil))))
    (C8.pss_cut (ps_if (pt_cmpR op_in_seq (pv 1) (pe_tup (pa_cons pe_str (pa_cons pe_str pa_nil))) (by rfl))
    (pss_one (ps_expr (pe_bm PySem.F.plainAttrs_list PySem.F.slot_list_append PySem.F.type_list_append mt_append (pv 2) (pa_cons (pe_callTy call_str_int (by rfl) T.z_str (by decide +kernel) (pa_cons (pe_ix ix_tup (pv 0) pe_int (fun _ _ => rfl)) pa_nil)) pa_nil))))
    pss_nil)
    (pss_one (ps_ret (pe_op op_add_str (pe_op op_add_str (pe_op op_add_str (pv 1) pe_str) (pe_join pe_str (pv 2))) pe_str))))))))), ?_⟩
    refine ⟨_, rfl, a, _, 0, _, rfl, rfl, sqt ha, atI0, ?_⟩
    refine ⟨_, rfl, rfl, _, rfl, ?_⟩
    have e60 : (10 : Nat) ^ 61 = 10 * 10 ^ 60 := by decide
    by_cases h0 : i.cls = 0
    · rcases hi.leaf h0 with ⟨n, e, e1⟩ | ⟨n, e, e1⟩ | ⟨n, e, e1⟩
      · subst e
        refine ifT (by show decide (V.str ("number" : Str) = V.str ("number" : Str)) = true; decide +kernel) ?_
        have hn : n.natAbs ≤ B := by cases ho; assumption
        have hb := hf.bd
        exact ⟨_, rfl, a, _, 1, _, rfl, rfl, sqt e1, atI1, n, rfl, log_ok (by omega), strV (by rw [It.wr]; rfl) (q _ (Same.refl H))⟩
      · subst e
        refine ifF (by show decide (V.str ("name" : Str) = V.str ("number" : Str)) = false; decide +kernel) ?_
        refine ⟨_, rfl, rfl, _, rfl, ?_⟩
        refine ifT (by show decide (V.str ("name" : Str) = V.str ("name" : Str)) = true; decide +kernel) ?_
        exact ⟨_, rfl, a, _, 1, _, rfl, rfl, sqt e1, atI1, strV (by rw [It.wr]) (q _ (Same.refl H))⟩
      · subst e
        refine ifF (by cases n <;> decide +kernel) ?_
        refine ⟨_, rfl, rfl, _, rfl, ?_⟩
        refine ifF (by cases n <;> decide +kernel) ?_
        refine ⟨_, rfl, (Nat.le_of_ble_eq_true rfl), fun p1 hp1 => ?_⟩
        refine ⟨p1, _, rfl, .inr (sqt upd_same), rfl, (by decide +kernel), _, rfl, ?_⟩
        refine ifT (inT (ys := ["true", "false"]) rfl (by cases n <;> decide +kernel)) ?_
        exact ⟨_, rfl, strV (by rw [It.wr]; rfl) (q _ (same_new hp1 _))⟩
    · refine ifF (word_ne ho h0 (by decide +kernel)) ?_
      refine ⟨_, rfl, rfl, _, rfl, ?_⟩
      refine ifF (word_ne ho h0 (by decide +kernel)) ?_
      refine ⟨_, rfl, (Nat.le_of_ble_eq_true rfl), fun p1 hp1 => ?_⟩
      have s1 := fun o => same_new hp1 o
      refine ⟨p1, _, rfl, .inr (sqt upd_same), rfl, (by decide +kernel), _, rfl, ?_⟩
      refine ifF (inT (ys := ["true", "false"]) rfl (by rw [ct_]; simp [h0])) ?_
      -- parts
      refine ⟨_, rfl, _, i, xs, B, b, rfl, hi.mono (Tp.same (s1 _)), ho, fun tp ys H2 s2 e2 hk => ?_⟩
      refine ⟨tp, rfl, ⟨_, sqt e2⟩, fun D hD => ?_⟩
      refine lc_tup (K := K) (a := tp) (xs := ys) (fun (j : Nat) (H' : Hp) => Same H2 H' ∧ H' D = some (.lst ((i.kids.take j).map fun k => V.str k.wr))) ?_ ?_ ?_ ?_
      · exact ⟨same_new hD _, by rw [upd_same, List.take_zero]; rfl⟩
      · rintro j H' _ ⟨s3, _⟩
        exact sqt (s3 _ _ e2)
      · rintro j x H' hx ⟨s3, e3⟩
        obtain ⟨kj, hkj, hin, hmem⟩ := hk.get hx
        obtain ⟨b', hf'⟩ := hf.kid hmem
        refine ⟨rfl, yes_if ?_⟩
        refine ⟨_, rfl, _, kj, xs, B, b', rfl, hin.mono (Tp.same s3), hf', fun H4 s4 => ?_⟩
        refine ⟨_, s4 _ _ e3, ?_, same_put (s3.trans s4) hD, ?_⟩
        · rw [List.length_map, List.length_take]
          have := kids_len ho
          exact small1000 (by omega)
        · rw [upd_same, List.take_add_one, hkj, List.map_append]
          rfl
      · rintro H3 ⟨s3, e3⟩
        rw [hk.1, List.take_length] at e3
        have hkl := kids_len ho
        have s13 := (s1 _).trans (s2.trans s3)
        have hHD : H D = none := ((s1 _).trans s2).free hD
        -- div, mod
        refine ⟨fun σ H4 => ∃ y3 : Option V, σ = [some (.ref a), some (.str i.word), some (.ref D), y3] ∧ Same H H4 ∧ H4 D = some (.lst ((i.kids.map It.wr ++ i.tailW).map V.str)), ?_, ?_⟩
        · refine ⟨_, rfl, (Nat.le_of_ble_eq_true rfl), fun p4 hp4 => ?_⟩
          have s4 := fun o => s13.trans (same_new hp4 o)
          have e4 := fun o => same_new hp4 o D _ e3
          refine ⟨p4, _, rfl, .inr (sqt upd_same), rfl, (by decide +kernel), _, rfl, ?_⟩
          by_cases h2 : i.cls = 2
          · refine ifT (inT (ys := ["div", "mod"]) rfl (by rw [c2, h2] <;> rfl)) ?_
            obtain ⟨x, j, m, e1, hj, ej⟩ := hi.divs h2
            have hm : m.natAbs ≤ B + 1 := by
              rw [ej] at ho
              cases ho; assumption
            have hb := hf.bd
            refine ⟨_, rfl, .inl ⟨rfl, _, sqd (e4 _)⟩, _, rfl, a, _, 2, _, rfl, rfl, sqt (s4 _ _ _ e1), atI2, m, rfl, log_ok (by omega), D, _, _, rfl, rfl, e4 _, ?_, ?_⟩
            · rw [List.length_map]
              exact small1000 (by omega)
            · refine ⟨_, rfl, same_put (s4 _) hHD, ?_⟩
              rw [upd_same, List.map_append, List.map_map]
              have et : i.tailW = [itxt m] := by rw [ej] <;> rfl
              rw [et]
              rfl
          · refine ifF (inT (ys := ["div", "mod"]) rfl (by rw [c2]; simpa using h2)) ?_
            refine ⟨_, rfl, s4 _, ?_⟩
            rw [e4]
            have et : i.tailW = [] := by
              cases i <;> first | rfl | exact absurd rfl h2
            rw [et, List.append_nil, List.map_map]
            rfl
        · rintro σ4 H4 ⟨y3, rfl, s4, e4⟩
          have hw := (word_wd ho).2
          obtain ⟨t1, _⟩ := tail_len hf.bd ho
          have l1 : ("(" : Str).length = 1 ∧ (")" : Str).length = 1 ∧ (", " : Str).length = 2 := by decide +kernel
          have hl := (wr_len hf.nm hf.bd ho).1
          have hz := hf.sz
          rw [wr_eq h0, len_app, len_app, len_app] at hl
          have hsum : (((i.kids.map It.wr ++ i.tailW).map (·.length)).sum) + (i.kids.map It.wr ++ i.tailW).length * (", " : Str).length ≤ 16777216 := by
            rw [l1.2.2]
            have k := sum_le (f := (fun t : Str => t.length) ∘ It.wr) (g := fun i => 300 * i.sz) i.kids fun j hj => by
              obtain ⟨b', f'⟩ := hf.kid hj
              have := (wr_len f'.nm f'.bd f'.ok).1
              show j.wr.length ≤ 300 * j.sz
              omega
            rw [sum_mul] at k
            have hz2 := sz_eq i
            have t3 : (i.tailW.map (·.length)).sum ≤ (i.tailW.map fun t => t.length + 2).sum := by
              generalize i.tailW = l
              induction l with
              | nil => exact Nat.le_refl _
              | cons a r ih => rw [List.map_cons, List.map_cons, List.sum_cons, List.sum_cons]; omega
            have t4 : i.tailW.length ≤ 1 := by cases i <;> exact (Nat.le_of_ble_eq_true rfl)
            rw [List.map_append, List.sum_append, List.map_map, List.length_append, List.length_map]
            omega
          refine ⟨_, rfl, _, _, rfl, rfl, big (by omega), ⟨_, rfl⟩, _, rfl, _, D, _, rfl, rfl, .inl (sqd e4), hsum, _, _, rfl, rfl, ?_, _, _, rfl, rfl, ?_, ?_⟩
          · rw [TL.join_eq, len_app]
            exact big (by omega)
          · rw [TL.join_eq, len_app, len_app]
            exact big (by omega)
          · rw [TL.join_eq]
            exact strV (wr_eq h0).symm (q _ s4)
end
end NL

namespace NL
open PySem PySem.Spec PyProof.Rows L2
theorem take_sepF {l : List (List Str)} {j : Nat} {t : List Str} (h : l[j]? = some t) : sepF (l.take (j + 1)) = sepF (l.take j) ++ (List.replicate (if (0 : Int) < (0 + (j : Int)) then (1 : Int) else 0).toNat ([","] : List Str)).flatten ++ t := by
  rw [List.take_add_one, h]
  show sepF (l.take j ++ [t]) = _
  rw [sepF_snoc]
  have hj : j < l.length := (List.getElem?_eq_some_iff.mp h).1
  cases j with
  | zero => rfl
  | succ j =>
    have hne : l.take (j + 1) ≠ [] := fun e => by
      have := congrArg List.length e
      rw [List.length_take, List.length_nil] at this
      omega
    rw [if_neg hne, if_pos (by omega)]
    rfl
section
variable {P : Program} {w : World} {K : PySem.W.Frag} {mg : Str → Option Value} {base : Heap}
/-! ### _law_tokens -/
def spTokens (n : Nat) : Sp := fun vs H Q _ => ∃ (v : V) (i : It) (xs : List Str) (B : Nat) (b : Bool), vs = [v] ∧ ItemIn H i v ∧ Fit xs B n b i ∧ ∀ p H', Same H H' → H p = none → H' p = some (.lst (i.tk.map V.str)) → Q (.ref p) H'
theorem ok_law_tokens (T : Txt K mg) : ∀ n : Nat, FnOk P w K mg base CX0 (n + 2) T.a_law_tokens T.d_law_tokens P_law_tokens (spTokens n)
  | 0 => by
    have no : ∀ vs H Q E, ¬ spTokens 0 vs H Q E := fun vs H Q E ⟨v, i, xs, B, b, _, _, f, _⟩ => by
      have := dep_pos i
      have := f.dp
      omega
    exact ⟨fun vs H Q E h => absurd h (no vs H Q E), fun A outer s H args us vs Q E _ _ _ _ h => absurd h (no vs H Q E)⟩
  | n + 1 => by
    have G_law_tokens := ok_law_tokens T n
    have G_law_inner := ok_law_inner (P := P) (w := w) (base := base) T
    refine T.F_law_tokens.ok sc_law_tokens (fun vs H Q E h => ?_) (fun cdv A outer s H vs Q E hr h => ?_)
    · obtain ⟨v, i, xs, B, b, rfl, _⟩ := h
      rfl
    obtain ⟨v, i, xs, B, b, rfl, hi, hf, q⟩ := h
    obtain ⟨a, rfl⟩ := hi.ref
    obtain ⟨r, ha⟩ := hi.head
    have ho := hf.ok
    obtain ⟨c0, cn, ct_, c1, c2⟩ := word_cls ho
    have e60 : (10 : Nat) ^ 61 = 10 * 10 ^ 60 := by decide
    refine ⟨_, (pss_cons (ps_if (pt_cmpR op_eq (pe_ix ix_tup (pv 0) pe_int (fun _ _ => rfl)) pe_str (nomark _))
    (pss_one (ps_ret (pe_lst (pa_cons (pe_callTy call_str_int (by rfl) T.z_str (by decide +kernel) (pa_cons (pe_ix ix_tup (pv 0) pe_int (fun _ _ => rfl)) pa_nil)) pa_nil))))
    pss_nil)
    (pss_cons (ps_if (pt_cmpR op_eq (pe_ix ix_tup (pv 0) pe_int (fun _ _ => rfl)) pe_str (nomark _))
    (pss_one (ps_ret (pe_lst (pa_cons (pe_ix ix_tup (pv 0) pe_int (fun _ _ => rfl)) pa_nil))))
    pss_nil)
    (pss_cons (ps_if (PW.pt (pw_or (pt_cmpR op_eq (pe_ix ix_tup (pv 0) pe_int (fun _ _ => rfl)) pe_str (nomark _)) (pw_or1 (pt_cmpR op_eq (pe_ix ix_tup (pv 0) pe_int (fun _ _ => rfl)) pe_str (nomark _)))))
    (pss_one (ps_ret (pe_lst (pa_cons (pe_ix ix_tup (pv 0) pe_int (fun _ _ => rfl)) pa_nil))))
    pss_nil)
    (pss_cons (ps_set (i := 1) sc_law_tokens.nd rfl (Or.inl rfl) (pe_lst (pa_cons (pe_ix ix_tup (pv 0) pe_int (fun _ _ => rfl)) (pa_cons pe_str pa_nil))))
    (pss_cons (ps_set (i := 2) sc_law_tokens.nd rfl (Or.inl rfl) (pe_call G_law_inner (hr.mono (by omega)) (by rfl) T.m_law_inner T.F_law_inner.kp T.b_law_inner .nil pass0 (pa_cons (pv 0) pa_nil)))
    (pss_cons (ps_for PassesOwn.never rfl (pi_range1 (by rfl) T.z_range (pa_cons (pe_callB call_len_seq (by rfl) T.z_len PySem.boot_len (pa_cons (pv 2) pa_nil)) pa_nil)) (pg_name (i := 3) sc_law_tokens.nd rfl (Or.inl rfl))
    (pss_one (ps_set (i := 1) sc_law_tokens.nd rfl (Or.inl rfl) (pe_op op_cat (pe_op op_cat (pv 1) (pe_op op_rep (pe_lst (pa_cons pe_str pa_nil)) (pe_callTy call_int1 (by rfl) T.z_int (by decide +kernel) (pa_cons (pe_cmpR op_gt (pv 3) pe_int (nomark _)) pa_nil)))) (pe_call G_law_tokens (hr.mono (by omega)) (by rfl) T.m_law_tokens T.F_law_tokens.kp T.b_law_tokens .nil pass0 (pa_cons (pe_ix ix_list (pv 2) (pv 3) (fun _ _ => rfl)) pa_nil))))))
    (C8.pss_cut (ps_if (PW.pt (pw_or (pt_cmpR op_eq (pe_ix ix_tup (pv 0) pe_int (fun _ _ => rfl)) pe_str (nomark _)) (pw_or1 (pt_cmpR op_eq (pe_ix ix_tup (pv 0) pe_int (fun _ _ => rfl)) pe_str (nomark _)))))
    (pss_one (ps_set (i := 1) sc_law_tokens.nd rfl (Or.inl rfl) (pe_op op_cat (pv 1) (pe_lst (pa_cons pe_str (pa_cons (pe_callTy call_str_int (by rfl) T.z_str (by decide +kernel) (pa_cons (pe_ix ix_tup (pv 0) pe_int (fun _ _ => rfl)) pa_nil)) pa_nil))))))
    pss_nil)
    (pss_one (ps_ret (pe_op op_cat (pv 1) (pe_lst (pa_cons pe_str pa_nil)))))))))))), ?_⟩
    refine ⟨_, rfl, a, _, 0, _, rfl, rfl, sqt ha, atI0, rfl, _, rfl, ?_⟩
    by_cases h0 : i.cls = 0
    · rcases hi.leaf h0 with ⟨n, e, e1⟩ | ⟨n, e, e1⟩ | ⟨n, e, e1⟩
      · subst e
        refine ifT (by show decide (V.str ("number" : Str) = V.str ("number" : Str)) = true; decide +kernel) ?_
        have hn : n.natAbs ≤ B := by cases ho; assumption
        have hb := hf.bd
        refine ⟨_, rfl, a, _, 1, _, rfl, rfl, sqt e1, atI1, n, rfl, log_ok (by omega), (Nat.le_of_ble_eq_true rfl), fun p hp => ?_⟩
        exact q p _ (same_new hp _) hp (by rw [upd_same, It.tk]; rfl)
      · subst e
        refine ifF (by show decide (V.str ("name" : Str) = V.str ("number" : Str)) = false; decide +kernel) ?_
        refine ⟨_, rfl, a, _, 0, _, rfl, rfl, sqt ha, atI0, rfl, _, rfl, ?_⟩
        refine ifT (by show decide (V.str ("name" : Str) = V.str ("name" : Str)) = true; decide +kernel) ?_
        refine ⟨_, rfl, a, _, 1, _, rfl, rfl, sqt e1, atI1, (Nat.le_of_ble_eq_true rfl), fun p hp => ?_⟩
        exact q p _ (same_new hp _) hp (by rw [upd_same, It.tk]; rfl)
      · subst e
        refine ifF (by cases n <;> decide +kernel) ?_
        refine ⟨_, rfl, a, _, 0, _, rfl, rfl, sqt ha, atI0, rfl, _, rfl, ?_⟩
        refine ifF (by cases n <;> decide +kernel) ?_
        refine ⟨_, rfl, a, _, 0, _, rfl, rfl, sqt ha, atI0, rfl, _, rfl, ?_⟩
        refine' cutP ?f ?b
        case f =>
          intro body
          refine ite2 (fun c => iteT body) (fun c => ?_)
          refine ⟨_, rfl, a, _, 0, _, rfl, rfl, sqt ha, atI0, rfl, _, rfl, ?_⟩
          refine ite2 (fun c => body) (fun c2 => ?_)
          exfalso
          cases n
          · exact c2 (by decide +kernel)
          · exact c (by decide +kernel)
        case b =>
          refine ⟨_, rfl, a, _, 0, _, rfl, rfl, sqt ha, atI0, (Nat.le_of_ble_eq_true rfl), fun p hp => ?_⟩
          exact q p _ (same_new hp _) hp (by rw [upd_same, It.tk]; rfl)
    refine ifF (word_ne ho h0 (by decide +kernel)) ?_
    refine ⟨_, rfl, a, _, 0, _, rfl, rfl, sqt ha, atI0, rfl, _, rfl, ?_⟩
    refine ifF (word_ne ho h0 (by decide +kernel)) ?_
    refine ⟨_, rfl, a, _, 0, _, rfl, rfl, sqt ha, atI0, rfl, _, rfl, ?_⟩
    refine ifF (word_ne ho h0 (by decide +kernel)) ?_
    refine ⟨_, rfl, a, _, 0, _, rfl, rfl, sqt ha, atI0, rfl, _, rfl, ?_⟩
    refine ifF (word_ne ho h0 (by decide +kernel)) ?_
    -- found, parts
    refine ⟨_, rfl, a, _, 0, _, rfl, rfl, sqt ha, atI0, (Nat.le_of_ble_eq_true rfl), fun p1 hp1 => ?_⟩
    have s1 := fun o => same_new hp1 o
    refine ⟨_, rfl, _, i, xs, B, b, rfl, hi.mono (Tp.same (s1 _)), ho, fun lp ys H2 s2 hlp e2 hk => ?_⟩
    have hkl := kids_len ho
    have hwl := (wr_len hf.nm hf.bd ho).2
    have hz := hf.sz
    have htk := tk_eq h0
    have hlen : ∀ j ≤ i.kids.length, (sepF ((i.kids.map It.tk).take j)).length ≤ 10 * i.sz := by
      intro j hj
      have e : sepF (i.kids.map It.tk) = sepF ((i.kids.map It.tk).take j) ++ (sepF (i.kids.map It.tk)).drop (sepF ((i.kids.map It.tk).take j)).length := by
        have hpre : ∀ (l : List (List Str)) (j : Nat), sepF (l.take j) <+: sepF l := by
          intro l j
          cases l with
          | nil => rw [List.take_nil]; exact List.prefix_refl _
          | cons a r =>
            cases j with
            | zero => exact List.nil_prefix
            | succ j =>
              show a ++ (r.take j).flatMap _ <+: a ++ r.flatMap _
              refine (List.prefix_append_right_inj a).mpr ?_
              have : r.flatMap (fun t => ("," : Str) :: t) = (r.take j).flatMap (fun t => ("," : Str) :: t) ++ (r.drop j).flatMap (fun t => ("," : Str) :: t) := by
                rw [← List.flatMap_append, List.take_append_drop]
              rw [this]
              exact List.prefix_append _ _
        exact (List.prefix_iff_eq_append.mp (hpre _ j)).symm
      have l1 := congrArg List.length e
      rw [List.length_append] at l1
      have l2 := congrArg List.length htk
      rw [List.length_append, List.length_append, List.length_append] at l2
      omega
    refine ⟨_, rfl, _, _, rfl, .inl (sqd e2), ((ys.length : Nat) : Int), rfl, by omega, by rw [hk.1]; omega, for_range (lo := 0) (n := ((ys.length : Nat) : Int).toNat) (fun (j : Nat) (σ : L2.St) (H' : Hp) => ∃ (fp : Addr) (y3 : Option V), σ = [some (.ref a), some (.ref fp), some (.ref lp), y3] ∧ Same H2 H' ∧ H' fp = some (.lst ((([i.word, "("] : List Str) ++ sepF ((i.kids.map It.tk).take j)).map V.str))) ?_ ?_ ?_⟩
    · refine ⟨p1, none, rfl, Same.refl H2, ?_⟩
      rw [s2 p1 _ upd_same, List.take_zero]
      rfl
    · rintro j σ H3 hj ⟨fp, y3, rfl, s3, e3⟩
      have hj2 : j < i.kids.length := by rw [← hk.1]; omega
      have hl3 := hlen j (by omega)
      have hcl : ((List.replicate (if decide ((0 : Int) < 0 + (j : Int)) = true then (1 : Int) else 0).toNat ([V.str ","] : List V)).flatten).length ≤ 1 := by split <;> decide
      have hcm : (List.replicate (if decide ((0 : Int) < 0 + (j : Int)) = true then (1 : Int) else 0).toNat ([V.str ","] : List V)).flatten = ((List.replicate (if (0 : Int) < (0 + (j : Int)) then (1 : Int) else 0).toNat ([","] : List Str)).flatten).map V.str := by
        by_cases h : (0 : Int) < 0 + (j : Int)
        · rw [if_pos (decide_eq_true h), if_pos h]; rfl
        · rw [if_neg (by simpa using h), if_neg h]; rfl
      have hx : ys[j]? = some ys[j] := List.getElem?_eq_getElem (by rw [hk.1]; exact hj2)
      obtain ⟨kj, hkj, hin, hmem⟩ := hk.get hx
      obtain ⟨b', hf'⟩ := hf.kid hmem
      refine ⟨_, rfl, ?_⟩
      refine ⟨(Nat.le_of_ble_eq_true rfl), fun p4 hp4 => ?_⟩
      have s4 := fun o => s3.trans (same_new hp4 o)
      refine ⟨_, rfl, _, _, rfl, rfl, .inr ⟨_, rfl, p4, _, _, rfl, rfl, upd_same, ?_, ?_, ?_, fun p5 hp5 => ?_⟩⟩
      · split <;> decide
      · split <;> decide
      · have : ((if decide ((0 : Int) < 0 + (j : Int)) = true then (1 : Int) else 0).toNat) ≤ 1 := by split <;> decide
        show 1 * _ ≤ sizeLine
        exact big (by omega)
      have s5 := fun o => (s4 _).trans (same_new hp5 o)
      have e5 := fun o => ((same_new hp4 _).trans (same_new hp5 o)) fp _ e3
      refine ⟨fp, p5, _, _, rfl, rfl, e5 _, upd_same, ?_, fun p6 hp6 => ?_⟩
      · rw [List.length_map, List.length_append]
        have h1 := hcl
        have h2 : ([i.word, "("] : List Str).length = 2 := rfl
        exact big (by omega)
      have s6 := fun o => (s5 _).trans (same_new hp6 o)
      refine ⟨_, rfl, _, rfl, lp, ys, _, _, rfl, rfl, sqd ((s6 _) _ _ e2), (by rw [Int.zero_add]; exact atI_nat hx), _, kj, xs, B, b', rfl, hin.mono (Tp.same (s6 _)), hf', fun p7 H7 s7 hp7 e7 => ?_⟩
      have hl7 := (wr_len hf'.nm hf'.bd hf'.ok).2
      have hz7 := hf'.sz
      refine ⟨p6, p7, _, _, rfl, rfl, s7 _ _ upd_same, e7, ?_, fun p8 hp8 => ?_⟩
      · rw [List.length_append, List.length_map, List.length_map, List.length_append]
        have h1 := hcl
        have h2 : ([i.word, "("] : List Str).length = 2 := rfl
        exact big (by omega)
      · refine ⟨p8, _, rfl, (s6 _).trans (s7.trans (same_new hp8 _)), ?_⟩
        have ht : (i.kids.map It.tk)[j]? = some kj.tk := by rw [List.getElem?_map, hkj]; rfl
        rw [upd_same, take_sepF ht, hcm, ← List.map_append, ← List.map_append, List.append_assoc, List.append_assoc, List.append_assoc]
    · rintro σ H3 ⟨fp, y3, rfl, s3, e3⟩
      rw [show ((ys.length : Nat) : Int).toNat = (i.kids.map It.tk).length by rw [List.length_map, ← hk.1]; exact Int.toNat_natCast _, List.take_length] at e3
      have hall := hlen i.kids.length (Nat.le_refl _)
      rw [show i.kids.length = (i.kids.map It.tk).length by rw [List.length_map], List.take_length] at hall
      have h2l : ([i.word, "("] : List Str).length = 2 := rfl
      have s13 := (s1 _).trans (s2.trans s3)
      refine ⟨fun σ H4 => ∃ fp : Addr, σ = [some (.ref a), some (.ref fp), some (.ref lp), y3] ∧ Same H3 H4 ∧ H4 fp = some (.lst ((([i.word, "("] : List Str) ++ sepF (i.kids.map It.tk) ++ i.tailT).map V.str)), ?_, ?_⟩
      · by_cases h2 : i.cls = 2
        · obtain ⟨x, jt, m, e1, hj, ej⟩ := hi.divs h2
          have hm : m.natAbs ≤ B + 1 := by
            rw [ej] at ho
            cases ho; assumption
          have hb := hf.bd
          have et : i.tailT = ([",", itxt m] : List Str) := by rw [ej] <;> rfl
          have hw : i.word = "div" ∨ i.word = "mod" := by
            have c := c2
            rw [h2] at c
            have := of_decide_eq_true (show decide (i.word ∈ (["div", "mod"] : List Str)) = true from c)
            simpa using this
          refine' cutP ?f ?b
          case f =>
            intro body
            refine ⟨_, rfl, a, _, 0, _, rfl, rfl, sqt (s13 _ _ ha), atI0, rfl, _, rfl, ?_⟩
            refine ite2 (fun c => iteT body) (fun c => ?_)
            refine ⟨_, rfl, a, _, 0, _, rfl, rfl, sqt (s13 _ _ ha), atI0, rfl, _, rfl, ?_⟩
            refine ite2 (fun c => body) (fun c3 => ?_)
            exfalso
            rcases hw with h | h
            · exact c (decide_eq_true (by rw [h]))
            · exact c3 (decide_eq_true (by rw [h]))
          case b =>
            refine ⟨_, rfl, _, rfl, a, _, 2, _, rfl, rfl, sqt (s13 _ _ e1), atI2, m, rfl, log_ok (by omega), (Nat.le_of_ble_eq_true rfl), fun p4 hp4 => ?_⟩
            refine ⟨fp, p4, _, _, rfl, rfl, same_new hp4 _ _ _ e3, upd_same, ?_, fun p5 hp5 => ?_⟩
            · rw [List.length_map, List.length_append]
              show _ + 2 ≤ sizeLine
              exact big (by omega)
            · refine ⟨p5, rfl, (same_new hp4 _).trans (same_new hp5 _), ?_⟩
              rw [upd_same, et, List.map_append (l₂ := ([",", itxt m] : List Str))]
              rfl
        · have et : i.tailT = [] := by
            cases i <;> first | rfl | exact absurd rfl h2
          have hw : i.word ∉ (["div", "mod"] : List Str) := fun h => by
            have c : decide (i.word ∈ (["div", "mod"] : List Str)) = (i.cls == 2) := c2
            rw [decide_eq_true h] at c
            exact h2 (by simpa using c.symm)
          refine ⟨_, rfl, a, _, 0, _, rfl, rfl, sqt (s13 _ _ ha), atI0, rfl, _, rfl, ?_⟩
          refine ifF (by rw [strE]; exact decide_eq_false fun h => hw (by rw [h]; exact List.mem_cons_self)) ?_
          refine ⟨_, rfl, a, _, 0, _, rfl, rfl, sqt (s13 _ _ ha), atI0, rfl, _, rfl, ?_⟩
          refine ifF (by rw [strE]; exact decide_eq_false fun h => hw (by rw [h]; exact List.mem_cons_of_mem _ List.mem_cons_self)) ?_
          exact ⟨fp, rfl, Same.refl H3, by rw [et, List.append_nil]; exact e3⟩
      · rintro σ4 H4 ⟨fp, rfl, s4, e4⟩
        refine ⟨_, rfl, (Nat.le_of_ble_eq_true rfl), fun p5 hp5 => ?_⟩
        have ht := (tail_len hf.bd ho).2
        refine ⟨fp, p5, _, _, rfl, rfl, same_new hp5 _ _ _ e4, upd_same, ?_, fun p6 hp6 => ?_⟩
        · rw [List.length_map, List.length_append, List.length_append]
          show _ + 1 ≤ sizeLine
          exact big (by omega)
        · refine q p6 _ (s13.trans (s4.trans ((same_new hp5 _).trans (same_new hp6 _)))) ((s13.trans (s4.trans (same_new hp5 _))).free hp6) ?_
          rw [upd_same, htk, List.map_append (l₂ := ([")"] : List Str))]
          rfl
/-! ### _law_written: the tokens, glued -/
def spGlue : Sp := fun vs H Q _ => ∃ (p : Addr) (ts : List Str), vs = [.ref p] ∧ H p = some (.lst (ts.map V.str)) ∧ ts.length ≤ 100000 ∧ (ct ts).length ≤ 1000000 ∧ ∀ H', Same H H' → Q (.str (Str.join "" (ts.map sub))) H'
theorem ok_law_written (T : Txt K mg) : FnOk P w K mg base CX0 1 T.a_law_written T.d_law_written P_law_written spGlue := by
  refine T.F_law_written.ok sc_law_written (fun vs H Q E h => ?_) (fun cdv A outer s H vs Q E hr h => ?_)
  · obtain ⟨p, ts, rfl, _⟩ := h
    rfl
  obtain ⟨p, ts, rfl, hp, hl, hc, q⟩ := h
  refine ⟨_, (pss_one (ps_ret (pe_join pe_str (pe_lc (own := [("token", 1)]) (g := (gName 1)) (tt := tYes) rfl sc_law_written.nd (pi_list (pv 0)) (blkOk_by (N := N_law_written) (sc := defScope s_law_written) (by decide +kernel)) (fun _ _ _ _ _ => (pg_name (i := 1) sc_law_written.nd rfl (Or.inl rfl))) (fun _ _ _ _ _ => pts_nil) (fun _ _ _ _ _ => (pe_dget2 (hu_of hr) (pe_disp (pps_cons pe_str pe_str pps_nil) (by rfl) (by rfl) (fun z => by cases z) (by decide)) (pv 1) (pv 1) ⟨rfl, rfl, rfl, rfl⟩)))))), ?_⟩
  refine ⟨⟨_, rfl⟩, _, rfl, p, rfl, ⟨_, sqd hp⟩, fun D hD => ?_⟩
  refine lc_list (K := K) (a := p) (xs := ts.map V.str) (fun (j : Nat) (H' : Hp) => Same H H' ∧ H' D = some (.lst (((ts.take j).map sub).map V.str))) ?_ ?_ ?_ ?_
  · exact ⟨same_new hD _, by rw [upd_same, List.take_zero]; rfl⟩
  · rintro j H' _ ⟨s3, _⟩
    exact sqd (s3 _ _ hp)
  · rintro j x H' hx ⟨s3, e3⟩
    rw [List.getElem?_map] at hx
    cases hn : ts[j]? with
    | none => rw [hn] at hx; cases hx
    | some t =>
      rw [hn] at hx
      obtain rfl : V.str t = x := Option.some.inj hx
      refine ⟨rfl, yes_if ?_⟩
      refine fun dp hdp => ?_
      refine ⟨upd_same, [(Sum.inr ",", V.str ", ")], rfl, by decide, dp, rfl, .inl ⟨_, .inl upd_same⟩, _, rfl, _, rfl, _, DGet.k (k := Sum.inr t) upd_same, ?_⟩
      have n1 : D ≠ dp := ne_of_none e3 hdp
      have ev : (Option.getD (valV (mergeK [] [((Sum.inr "," : Key), V.str ", ")]) (Sum.inr t)) (V.str t)) = V.str (sub t) := by
        by_cases h : t = ","
        · rw [h]; decide +kernel
        · rw [sub_ne h]
          have : valV (mergeK [] [((Sum.inr "," : Key), V.str ", ")]) (Sum.inr t) = none := by
            have hne : ¬ ((Sum.inr "," : Key) = Sum.inr t) := fun e => h (Sum.inr.inj e).symm
            show valV [((Sum.inr "," : Key), V.str ", ")] (Sum.inr t) = none
            unfold valV
            simp [hne]
          rw [this]; rfl
      have hHd : H dp = none := s3.free hdp
      refine ⟨_, by rw [upd_ne n1, upd_ne n1]; exact e3, ?_, same_put (same_put (same_put s3 hHd) hHd) hD, ?_⟩
      · rw [List.length_map, List.length_map, List.length_take]
        exact big' (by omega)
      · rw [upd_same, List.take_add_one, hn, List.map_append, List.map_append]
        exact congrArg (fun z => some (HO.lst (_ ++ [z]))) ev
  · rintro H3 ⟨s3, e3⟩
    rw [List.length_map, List.take_length] at e3
    refine ⟨_, D, _, rfl, rfl, .inl (sqd e3), ?_, ?_⟩
    · have h := congrArg List.length (ct_join ts)
      rw [join_codes, List.length_flatMap] at h
      have e : ((ts.map sub).map fun t : Str => t.length) = (ts.map sub).map fun t => t.cps.toList.length := List.map_congr_left fun t _ => len_list t
      have l0 : ("" : Str).length = 0 := by decide +kernel
      rw [e, h, l0]
      omega
    · rw [TL.join_eq]
      exact q _ s3
end
end NL

namespace NL
open PySem PySem.Spec PyProof.Rows L2
section
variable {P : Program} {w : World} {K : PySem.W.Frag} {mg : Str → Option Value} {base : Heap}
/-! ### write_expression, write_condition -/
theorem ok_write_expression (T : Txt K mg) (n : Nat) : FnOk P w K mg base CX0 (n + 3) T.awrite_expression T.dwrite_expression Pwrite_expression (spWr n) := by
  have G_written := ok_written (P := P) (w := w) (base := base) T n
  refine T.Fwrite_expression.ok scwrite_expression (fun vs H Q E h => ?_) (fun cdv A outer s H vs Q E hr h => ?_)
  · obtain ⟨v, i, xs, B, b, rfl, _⟩ := h
    rfl
  obtain ⟨v, i, xs, B, b, rfl, hi, hf, q⟩ := h
  exact ⟨_, (pss_one (ps_ret (pe_call G_written (hr.mono (by omega)) (by rfl) T.m_written T.F_written.kp T.b_written .nil pass0 (pa_cons (pv 0) pa_nil)))), _, rfl, v, i, xs, B, b, rfl, hi, hf, q⟩
theorem ok_write_condition (T : Txt K mg) (n : Nat) : FnOk P w K mg base CX0 (n + 3) T.awrite_condition T.dwrite_condition Pwrite_condition (spWr n) := by
  have G_written := ok_written (P := P) (w := w) (base := base) T n
  refine T.Fwrite_condition.ok scwrite_condition (fun vs H Q E h => ?_) (fun cdv A outer s H vs Q E hr h => ?_)
  · obtain ⟨v, i, xs, B, b, rfl, _⟩ := h
    rfl
  obtain ⟨v, i, xs, B, b, rfl, hi, hf, q⟩ := h
  exact ⟨_, (pss_one (ps_ret (pe_call G_written (hr.mono (by omega)) (by rfl) T.m_written T.F_written.kp T.b_written .nil pass0 (pa_cons (pv 0) pa_nil)))), _, rfl, v, i, xs, B, b, rfl, hi, hf, q⟩
/-! ### _law_great: an int of at most 60 digits, one more too -/
def spGreat : Sp := fun vs H Q _ => ∃ (d : Addr) (c : Int), vs = [.ref d, .int c] ∧ Dr H d ∧ ∀ n H', Go d H H' → n.natAbs ≤ 10 ^ 60 - 2 → Q (.int n) H'
theorem ok_law_great (T : Txt K mg) : FnOk P w K mg base CX0 2 T.a_law_great T.d_law_great P_law_great spGreat := by
  have G_law_take := ok_law_take (P := P) (w := w) (base := base) T
  refine T.F_law_great.ok sc_law_great (fun vs H Q E h => ?_) (fun cdv A outer s H vs Q E hr h => ?_)
  · obtain ⟨d, c, rfl, _⟩ := h
    rfl
  obtain ⟨d, c, rfl, hD, q⟩ := h
  refine ⟨_, (pss_cons (ps_set (i := 2) sc_law_great.nd rfl (Or.inl rfl) (pe_ix ix_list (pe_lst (pa_cons (pe_op op_mod (pe_callB (call_abs) (by rfl) T.z_abs (by decide +kernel) (pa_cons (pv 1) pa_nil)) (pe_op op_pow pe_int pe_int)) (pa_cons (pe_op op_sub (pe_op op_pow pe_int pe_int) pe_int) pa_nil))) (pe_op op_fdiv (pe_call G_law_take (hr.mono (by omega)) (by rfl) T.m_law_take T.F_law_take.kp T.b_law_take .nil pass0 (pa_cons (pv 0) (pa_cons pe_int pa_nil))) pe_int) (fun _ _ => rfl)))
    (pss_one (ps_ret (pe_ix ix_list (pe_lst (pa_cons (pv 2) (pa_cons (pe_un un_neg (pv 2)) pa_nil))) (pe_call G_law_take (hr.mono (by omega)) (by rfl) T.m_law_take T.F_law_take.kp T.b_law_take .nil pass0 (pa_cons (pv 0) (pa_cons pe_int pa_nil))) (fun _ _ => rfl))))), ?_⟩
  have p59 : (10 : Int) ^ (Int.toNat 59) = 100000000000000000000000000000000000000000000000000000000000 := by decide
  have p60 : (10 : Int) ^ (Int.toNat 60) = 1000000000000000000000000000000000000000000000000000000000000 := by decide
  have q60 : (10 : Nat) ^ 60 = 1000000000000000000000000000000000000000000000000000000000000 := by decide
  refine ⟨_, rfl, _, rfl, _, _, rfl, rfl, ⟨by decide, by decide, by decide⟩, _, _, rfl, rfl, (by show (0 : Int) < 10 ^ (Int.toNat 59); decide), _, _, rfl, rfl, ⟨by decide, by decide, by decide⟩, _, _, rfl, rfl, (Nat.le_of_ble_eq_true rfl), fun p hp => ?_⟩
  have gp := fun o => Go.new (o := o) hD hp
  refine ⟨_, rfl, d, _, rfl, (gp _).dr, (by decide), fun r H1 g1 r0 r1 => ?_⟩
  have m0 := Int.emod_nonneg (if c < 0 then -c else c) (show (10 : Int) ^ (Int.toNat 59) ≠ 0 by decide)
  have m1 := Int.emod_lt_of_pos (if c < 0 then -c else c) (show (0 : Int) < 10 ^ (Int.toNat 59) by decide)
  obtain ⟨g, hg, hgm⟩ := atI_map (f := V.int) (xs := [(if c < 0 then -c else c) % 10 ^ (Int.toNat 59), 10 ^ (Int.toNat 60) - 2]) (i := r / 3) (by omega) (by show r / 3 < 2; omega)
  refine ⟨_, _, rfl, rfl, ⟨by decide, by decide⟩, _, _, _, _, rfl, rfl, sqd (g1.at hD hp), hg, ?_⟩
  have hgb : g.natAbs ≤ 10 ^ 60 - 2 := by
    rw [p59] at m0 m1 hgm
    rw [p60] at hgm
    rw [q60]
    simp only [List.mem_cons, List.not_mem_nil, or_false] at hgm
    omega
  refine ⟨_, rfl, _, rfl, _, rfl, (Nat.le_of_ble_eq_true rfl), fun p2 hp2 => ?_⟩
  have gp2 := fun o => Go.new (o := o) g1.dr hp2
  refine ⟨_, rfl, d, _, rfl, (gp2 _).dr, (by decide), fun u H2 g2 u0 u1 => ?_⟩
  obtain ⟨z, hz, hzm⟩ := atI_map (f := V.int) (xs := [g, -g]) u0 u1
  refine ⟨_, _, _, _, rfl, rfl, sqd (g2.at g1.dr hp2), hz, q z H2 ((gp _).trans (g1.trans ((gp2 _).trans g2))) ?_⟩
  simp only [List.mem_cons, List.not_mem_nil, or_false] at hzm
  rcases hzm with e | e <;> rw [e]
  · exact hgb
  · rw [Int.natAbs_neg]; exact hgb
/-! ### _law_text_item -/
def spTextItem (K : PySem.W.Frag) (B : Nat) : Sp := fun vs H Q _ => ∃ (d n : Addr) (xs : List Str) (c : Int), vs = [.ref d, .ref n, .int c] ∧ Dr H d ∧ Keep K d H n (xs.map V.str) ∧ c.natAbs ≤ B ∧
  ∀ v i b H', Go d H H' → ItemIn H' i v → Okx xs B b i → i.dep ≤ 12 → i.sz ≤ 1000 → Q v H'
theorem ok_law_text_item {B : Nat} (hB : 100 ≤ B) (T : Txt K mg) : FnOk P w K mg base CX0 15 T.a_law_text_item T.d_law_text_item P_law_text_item (spTextItem K B) := by
  have G_law_take := ok_law_take (P := P) (w := w) (base := base) T
  have G_law_leaf := ok_law_leaf (P := P) (w := w) (base := base) hB T
  have G_law_many := ok_law_many (P := P) (w := w) (base := base) hB T
  have G_law_around := ok_law_around (P := P) (w := w) (base := base) T
  have G_law_depth := ok_law_depth (P := P) (w := w) (base := base) T 12
  obtain ⟨G_law_expression, G_law_test⟩ := ok_ET (P := P) (w := w) (base := base) hB T 3
  have eE : (eT 2).1 = 41 ∧ (eT 2).2 = 223 := by decide
  refine T.F_law_text_item.ok sc_law_text_item (fun vs H Q E h => ?_) (fun cdv A outer s H vs Q E hr h => ?_)
  · obtain ⟨d, n, xs, c, rfl, _⟩ := h
    rfl
  obtain ⟨d, n, xs, c, rfl, hD, hk, hc, q⟩ := h
  refine ⟨_, (pss_cons (ps_set (i := 3) sc_law_text_item.nd rfl (Or.inl rfl) (pe_call G_law_take (hr.mono (by omega)) (by rfl) T.m_law_take T.F_law_take.kp T.b_law_take .nil pass0 (pa_cons (pv 0) (pa_cons pe_int pa_nil))))
    (pss_cons (ps_if (pt_cmpR op_eq (pv 3) pe_int (nomark _))
    (pss_one (ps_ret (pe_call G_law_many (hr.mono (by omega)) (by rfl) T.m_law_many T.F_law_many.kp T.b_law_many .nil pass0 (pa_cons (pv 0) (pa_cons (pv 1) (pa_cons (pv 2) pa_nil))))))
    pss_nil)
    (C8.pss_cut (ps_if (pt_cmpR op_eq (pe_op op_mod (pv 3) pe_int) pe_int (nomark _))
    (pss_one (ps_set (i := 4) sc_law_text_item.nd rfl (Or.inl rfl) (pe_call G_law_expression (hr.mono (by omega)) (by rfl) T.m_law_expression T.F_law_expression.kp T.b_law_expression .nil pass0 (pa_cons (pv 0) (pa_cons (pv 1) (pa_cons (pv 2) (pa_cons pe_int pa_nil)))))))
    (pss_one (ps_set (i := 4) sc_law_text_item.nd rfl (Or.inl rfl) (pe_call G_law_test (hr.mono (by omega)) (by rfl) T.m_law_test T.F_law_test.kp T.b_law_test .nil pass0 (pa_cons (pv 0) (pa_cons (pv 1) (pa_cons (pv 2) (pa_cons pe_int pa_nil))))))))
    (C8.pss_cut (ps_if (PW.pt (pw_or (pt_cmpR op_eq (pv 3) pe_int (nomark _)) (pw_or1 (pt_cmpR op_eq (pv 3) pe_int (nomark _)))))
    (pss_one (ps_set (i := 4) sc_law_text_item.nd rfl (Or.inl rfl) (pe_call G_law_around (hr.mono (by omega)) (by rfl) T.m_law_around T.F_law_around.kp T.b_law_around .nil pass0 (pa_cons (pv 4) (pa_cons (pe_call G_law_leaf (hr.mono (by omega)) (by rfl) T.m_law_leaf T.F_law_leaf.kp T.b_law_leaf .nil pass0 (pa_cons (pv 0) (pa_cons (pv 1) (pa_cons (pv 2) pa_nil)))) (pa_cons (pe_call G_law_take (hr.mono (by omega)) (by rfl) T.m_law_take T.F_law_take.kp T.b_law_take .nil pass0 (pa_cons (pv 0) (pa_cons (pe_op op_sub pe_int (pe_call G_law_depth (hr.mono (by omega)) (by rfl) T.m_law_depth T.F_law_depth.kp T.b_law_depth .nil pass0 (pa_cons (pv 4) pa_nil))) pa_nil))) (pa_cons (pe_call G_law_take (hr.mono (by omega)) (by rfl) T.m_law_take T.F_law_take.kp T.b_law_take .nil pass0 (pa_cons (pv 0) (pa_cons pe_int pa_nil))) pa_nil)))))))
    pss_nil)
    (pss_one (ps_ret (pv 4))))))), ?_⟩
  refine ⟨_, rfl, d, _, rfl, hD, (by decide), fun sh H1 g1 s0 s1 => ?_⟩
  refine ⟨_, rfl, rfl, _, rfl, ?_⟩
  refine ite2 (fun c1 => ?_) (fun c1 => ?_)
  · exact ⟨_, rfl, _, rfl, _, rfl, d, n, xs, c, rfl, g1.dr, hk.go g1, hc, fun v i H2 g2 hi ho hd hs => q v i true H2 (g1.trans g2) hi ho (by omega) (by omega)⟩
  refine ⟨fun σ H2 => ∃ (v : V) (i : It) (b : Bool), σ = [some (.ref d), some (.ref n), some (.int c), some (.int sh), some v] ∧ Go d H H2 ∧ ItemIn H2 i v ∧ Okx xs B b i ∧ i.dep ≤ 6 ∧ i.sz ≤ 300, ?_, ?_⟩
  · refine ⟨_, rfl, _, _, rfl, rfl, (by show (0 : Int) < 2; decide), rfl, _, rfl, ?_⟩
    refine ite2 (fun c2 => ?_) (fun c2 => ?_)
    · exact ⟨_, rfl, _, rfl, _, rfl, d, n, xs, c, 2, rfl, g1.dr, hk.go g1, hc, by decide, fun v i H2 g2 hi ho hd hs => ⟨v, i, false, rfl, g1.trans g2, hi, ho, Nat.le_trans (show i.dep ≤ 5 from hd) (by decide), Nat.le_trans (show i.sz ≤ 41 from hs) (by decide)⟩⟩
    · exact ⟨_, rfl, _, rfl, _, rfl, d, n, xs, c, 2, rfl, g1.dr, hk.go g1, hc, by decide, fun v i H2 g2 hi ho hd hs => ⟨v, i, true, rfl, g1.trans g2, hi, ho, show i.dep ≤ 6 from hd, Nat.le_trans (show i.sz ≤ 223 from hs) (by decide)⟩⟩
  · rintro σ2 H2 ⟨v, i, b, rfl, g2, hi, ho, hd, hs⟩
    refine ⟨fun σ H3 => ∃ (v : V) (i : It) (b : Bool), σ = [some (.ref d), some (.ref n), some (.int c), some (.int sh), some v] ∧ Go d H H3 ∧ ItemIn H3 i v ∧ Okx xs B b i ∧ i.dep ≤ 12 ∧ i.sz ≤ 1000, ?_, ?_⟩
    · refine' cutP ?f ?b
      case f =>
        intro body
        refine ⟨_, rfl, rfl, _, rfl, ?_⟩
        refine ite2 (fun c => iteT body) (fun c => ?_)
        refine ⟨_, rfl, rfl, _, rfl, ?_⟩
        refine ite2 (fun c => body) (fun c3 => ?_)
        exact ⟨v, i, b, rfl, g2, hi, ho, by omega, by omega⟩
      case b =>
        refine ⟨_, rfl, _, rfl, _, rfl, _, rfl, d, n, xs, c, rfl, g2.dr, hk.go g2, hc, fun sv si H3 g3 hsi hso hsd hsz => ?_⟩
        have hi3 := hi.go g3 g2.dr
        refine ⟨_, rfl, _, rfl, v, i, xs, B, b, rfl, hi3, ho, by omega, fun H4 s4 => ?_⟩
        have hp := dep_pos i
        have g4 := g3.trans (Go.same g3.dr s4)
        refine ⟨_, _, rfl, rfl, d, _, rfl, g4.dr, (by show (0 : Int) < 13 - _; omega), fun m H5 g5 m0 m1 => ?_⟩
        refine ⟨_, rfl, d, _, rfl, g5.dr, (by decide), fun t H6 g6 t0 t1 => ?_⟩
        have g46 := g5.trans g6
        have g36 := (Go.same g3.dr s4).trans g46
        refine ⟨v, sv, i, si, xs, B, b, m, t, rfl, hi3.go g36 g3.dr, ho, hsi.go g36 g3.dr, hso, hsd, hsz, hB, by omega, ?_, fun v' i' b' H7 s7 hi' ho' hd' hs' => ?_⟩
        · have : m < 13 - (i.dep : Int) := m1
          omega
        · have : m < 13 - (i.dep : Int) := m1
          exact ⟨v', i', b', rfl, (g2.trans (g4.trans g46)).trans (Go.same g6.dr s7), hi', ho', by omega, by omega⟩
    · rintro σ3 H3 ⟨v, i, b, rfl, g3, hi, ho, hd, hs⟩
      exact ⟨_, rfl, q v i b H3 g3 hi ho hd hs⟩
end
end NL

namespace NL
open PySem PySem.Spec PyProof.Rows L2
/-! ### runs of signs -/
def tl (z : Str) : List Nat := z.cps.toList
theorem tl_len (z : Str) : (tl z).length = z.length := (len_list z).symm
theorem tl_app (a b : Str) : tl (a ++ b) = tl a ++ tl b := app_list a b
theorem tl_mk (l : List Nat) : tl ⟨l.toArray⟩ = l := rfl
theorem mk_tl (z : Str) : (⟨(tl z).toArray⟩ : Str) = z := str_ext rfl
def rn (cs l : List Nat) : Nat := (l.takeWhile fun c => decide (c ∈ cs)).length
theorem rn_nil {cs : List Nat} : rn cs [] = 0 := rfl
theorem rn_in {cs l : List Nat} {c : Nat} (h : c ∈ cs) : rn cs (c :: l) = 1 + rn cs l := by
  unfold rn
  rw [List.takeWhile_cons, if_pos (decide_eq_true h), List.length_cons, Nat.add_comm]
theorem rn_out {cs l : List Nat} {c : Nat} (h : c ∉ cs) : rn cs (c :: l) = 0 := by
  unfold rn
  rw [List.takeWhile_cons, if_neg (by rw [decide_eq_false h]; exact Bool.false_ne_true)]
  rfl
theorem rn_le (cs : List Nat) : ∀ l, rn cs l ≤ l.length
  | [] => Nat.le_refl _
  | c :: r => by
    by_cases h : c ∈ cs
    · rw [rn_in h, List.length_cons]
      have := rn_le cs r
      omega
    · rw [rn_out h]; exact Nat.zero_le _
theorem rn_app {cs : List Nat} : ∀ (l r : List Nat), (∀ c ∈ l, c ∈ cs) → rn cs (l ++ r) = l.length + rn cs r
  | [], r, _ => by rw [List.nil_append, List.length_nil, Nat.zero_add]
  | c :: l, r, h => by
    rw [List.cons_append, rn_in (h c List.mem_cons_self), rn_app l r fun x hx => h x (List.mem_cons_of_mem _ hx), List.length_cons]
    omega
theorem rn_all {cs l : List Nat} (h : ∀ c ∈ l, c ∈ cs) : rn cs l = l.length := by
  have := rn_app l [] h
  rw [List.append_nil, rn_nil] at this
  exact this
theorem rn_stop {cs : List Nat} {l : List Nat} (h : ∀ c r, l = c :: r → c ∉ cs) : rn cs l = 0 := by
  cases l with
  | nil => rfl
  | cons c r => exact rn_out (h c r rfl)
abbrev lets : List Nat := tl "abcdefghijklmnopqrstuvwxyz"
abbrev digs : List Nat := tl "0123456789"
theorem in_lets {c : Nat} : c ∈ lets ↔ 97 ≤ c ∧ c ≤ 122 := by
  have e : lets = List.range' 97 26 := by decide +kernel
  rw [e, List.mem_range'_1]
  omega
theorem in_digs {c : Nat} : c ∈ digs ↔ 48 ≤ c ∧ c ≤ 57 := by
  have e : digs = List.range' 48 10 := by decide +kernel
  rw [e, List.mem_range'_1]
  omega
theorem in_blank {c : Nat} : c ∈ tl (" " : Str) ↔ c = 32 := by
  have e : tl (" " : Str) = [32] := by decide +kernel
  rw [e, List.mem_singleton]
/-- how long the piece is that begins here -/
def pc : List Nat → Nat
  | [] => 0
  | c :: r => if c ∈ lets then rn lets (c :: r) else if c ∈ digs ∨ c = 45 then 1 + rn digs r else 1
theorem pc_pos {l : List Nat} (h : l ≠ []) : 1 ≤ pc l ∧ pc l ≤ l.length := by
  cases l with
  | nil => exact absurd rfl h
  | cons c r =>
    show 1 ≤ (if c ∈ lets then rn lets (c :: r) else if c ∈ digs ∨ c = 45 then 1 + rn digs r else 1) ∧ (if c ∈ lets then rn lets (c :: r) else if c ∈ digs ∨ c = 45 then 1 + rn digs r else 1) ≤ (c :: r).length
    have := rn_le digs r
    rw [List.length_cons]
    split
    · rename_i hc
      rw [rn_in hc]
      have := rn_le lets r
      omega
    · split <;> omega
abbrev sp : List Nat := tl (" " : Str)
/-- the tokens of what stands from `at` on (it begins with no blank), each with its column -/
inductive Toks : List Nat → Nat → List (Str × Nat) → Prop where
  | nil (n : Nat) : Toks [] n []
  | cons {l : List Nat} {n : Nat} {ts : List (Str × Nat)} : l ≠ [] → Toks ((l.drop (pc l)).drop (rn sp (l.drop (pc l)))) (n + pc l + rn sp (l.drop (pc l))) ts → Toks l n ((⟨(l.take (pc l)).toArray⟩, n + 1) :: ts)
/-- a list of tokens in the heap -/
def TokL (H : Hp) (xs : List V) (ts : List (Str × Nat)) : Prop := xs.length = ts.length ∧ ∀ (k : Nat) t, ts[k]? = some t → ∃ a, xs[k]? = some (.ref a) ∧ H a = some (.tup [.str t.1, .int (t.2 : Nat)])
def TokIn (H : Hp) (q : Addr) (ts : List (Str × Nat)) : Prop := ∃ xs, H q = some (.lst xs) ∧ TokL H xs ts
theorem TokL.mono {H H' : Hp} {xs : List V} {ts : List (Str × Nat)} (h : TokL H xs ts) (t : Tp H H') : TokL H' xs ts := ⟨h.1, fun k u e => by
  obtain ⟨a, h1, h2⟩ := h.2 k u e
  exact ⟨a, h1, t _ _ h2⟩⟩
theorem TokIn.same {H H' : Hp} {q : Addr} {ts : List (Str × Nat)} (h : TokIn H q ts) (s : Same H H') : TokIn H' q ts := by
  obtain ⟨xs, e, t⟩ := h
  exact ⟨xs, s _ _ e, t.mono (Tp.same s)⟩
theorem TokL.snoc {H : Hp} {xs : List V} {ts : List (Str × Nat)} {z : Str} {n : Nat} {a : Addr} (h : TokL H xs ts) (e : H a = some (.tup [.str z, .int (n : Nat)])) : TokL H (xs ++ [.ref a]) (ts ++ [(z, n)]) := by
  refine ⟨by rw [List.length_append, List.length_append, h.1] <;> rfl, fun k t ht => ?_⟩
  by_cases hk : k < ts.length
  · rw [List.getElem?_append_left hk] at ht
    rw [List.getElem?_append_left (by rw [h.1]; exact hk)]
    exact h.2 k t ht
  · have hk2 : k = ts.length := by
      have := (List.getElem?_eq_some_iff.mp ht).1
      rw [List.length_append, List.length_singleton] at this
      omega
    subst hk2
    rw [List.getElem?_append_right (Nat.le_refl _), Nat.sub_self] at ht
    obtain rfl : (z, n) = t := Option.some.inj ht
    exact ⟨a, by rw [List.getElem?_append_right (by rw [h.1]; exact Nat.le_refl _), h.1, Nat.sub_self] <;> rfl, e⟩
theorem TokIn.get {H : Hp} {q : Addr} {ts : List (Str × Nat)} (h : TokIn H q ts) {n : Nat} {w : Str} {r : List Str} (e : (ts.map Prod.fst).drop n = w :: r) : ∃ xs a c, H q = some (.lst xs) ∧ atI xs (n : Int) = some (.ref a) ∧ H a = some (.tup [.str w, .int c]) := by
  obtain ⟨xs, eq, t⟩ := h
  have h1 : (ts.map Prod.fst)[n]? = some w := by
    have := congrArg (fun l : List Str => l[0]?) e
    simpa using this
  rw [List.getElem?_map] at h1
  cases hn : ts[n]? with
  | none => rw [hn] at h1; cases h1
  | some u =>
    rw [hn] at h1
    obtain rfl : u.1 = w := Option.some.inj h1
    obtain ⟨a, h2, h3⟩ := t.2 n u hn
    exact ⟨xs, a, _, eq, atI_nat h2, h3⟩
theorem drop_cons {α : Type} {l : List α} {n : Nat} {c : α} {r : List α} (h : l.drop n = c :: r) : l[n]? = some c ∧ l.drop (n + 1) = r ∧ n < l.length := by
  have h1 := congrArg (fun l : List α => l[0]?) h
  have h2 := congrArg (List.drop 1) h
  refine ⟨by simpa using h1, by simpa [List.drop_drop] using h2, ?_⟩
  refine Nat.lt_of_not_le fun hle => ?_
  rw [List.drop_eq_nil_of_le hle] at h
  cases h
theorem cut_mid {z : Str} {i j : Nat} (h : i ≤ j) (h2 : j ≤ z.length) : cutS z (some (i : Int)) (some (j : Int)) = ⟨(((tl z).drop i).take (j - i)).toArray⟩ := by
  unfold cutS
  rw [show HT.sIx z.length z.length (some (j : Int)) = min j z.length from HT.sIx_nat _ _ _, show HT.sIx z.length 0 (some (i : Int)) = min i z.length from HT.sIx_nat _ _ _, Nat.min_eq_left h2, Nat.min_eq_left (Nat.le_trans h h2)]
  rfl
theorem one_str {a b : Nat} : (V.str ⟨#[a]⟩ = V.str ⟨#[b]⟩) ↔ a = b := by
  constructor
  · intro h
    have := congrArg (fun z : Str => z.cps.toList) (V.str.inj h)
    simpa using this
  · rintro rfl; rfl
section
variable {P : Program} {w : World} {K : PySem.W.Frag} {mg : Str → Option Value} {base : Heap}
/-! ### run_end -/
def spRun : Sp := fun vs H Q _ => ∃ (z cs : Str) (n : Nat), vs = [.str z, .int (n : Int), .str cs] ∧ n ≤ z.length ∧ z.length ≤ 10000000 ∧ Q (.int ((n + rn (tl cs) ((tl z).drop n) : Nat) : Int)) H
theorem szl {n : Nat} (h : n ≤ 10000000) : n ≤ sizeLine := Nat.le_trans h (by decide)
theorem ok_run_end (T : Txt K mg) : FnOk P w K mg base CX0 1 T.arun_end T.drun_end Prun_end spRun := by
  refine T.Frun_end.ok scrun_end (fun vs H Q E h => ?_) (fun cdv A outer s H vs Q E hr h => ?_)
  · obtain ⟨z, cs, n, rfl, _⟩ := h
    rfl
  obtain ⟨z, cs, n, rfl, hn, hz, q⟩ := h
  refine ⟨_, (pss_cons (ps_while PassesOwn.never (PW.pt (pw_and (pt_cmpR op_lt (pv 1) (pe_callB call_len_str (by rfl) T.z_len PySem.boot_len (pa_cons (pv 0) pa_nil)) (nomark _)) (pw_and1 (pt_cmpR op_in_sign (pe_ix ix_str (pv 0) (pv 1) (fun _ _ => rfl)) (pv 2) (by rfl)))))
    (pss_one (ps_aug (i := 1) scrun_end.nd rfl (Or.inl rfl) pe_int ip_add)))
    (pss_one (ps_ret (pv 1)))), ?_⟩
  refine ⟨fun m σ H' => ∃ k : Nat, σ = [some (.str z), some (.int (k : Int)), some (.str cs)] ∧ H' = H ∧ m = z.length - k ∧ k ≤ z.length ∧ k + rn (tl cs) ((tl z).drop k) = n + rn (tl cs) ((tl z).drop n), ⟨_, n, rfl, rfl, rfl, hn, rfl⟩, ?_⟩
  rintro m σ H' ⟨k, rfl, rfl, rfl, hk, e⟩
  refine ⟨_, rfl, _, rfl, z, rfl, szl hz, _, _, rfl, rfl, _, rfl, ?_⟩
  refine ite2 (fun c => ?_) (fun c => ?_)
  · have hk2 : k < (tl z).length := by
      have := of_decide_eq_true c
      rw [tl_len]
      omega
    obtain ⟨ch, hc⟩ : ∃ ch, (tl z).drop k = ch :: (tl z).drop (k + 1) := ⟨_, List.drop_eq_getElem_cons hk2⟩
    refine ⟨_, rfl, _, rfl, _, _, ch, rfl, rfl, szl hz, atI_nat (drop_cons hc).1, ?_⟩
    refine ⟨_, rfl, ch, cs, rfl, rfl, _, rfl, ?_⟩
    by_cases hin : ch ∈ tl cs
    · refine ifT (decide_eq_true hin) ?_
      refine ⟨fun σ' H'' => ∃ m', m' < z.length - k ∧ ∃ k : Nat, σ' = [some (.str z), some (.int (k : Int)), some (.str cs)] ∧ H'' = H' ∧ m' = z.length - k ∧ k ≤ z.length ∧ k + rn (tl cs) ((tl z).drop k) = n + rn (tl cs) ((tl z).drop n), fun _ _ h => h, ?_⟩
      refine ⟨_, rfl, _, _, rfl, rfl, ?_⟩
      rw [tl_len] at hk2
      rw [hc, rn_in hin] at e
      exact ⟨z.length - (k + 1), by omega, k + 1, by rw [Int.natCast_add] <;> rfl, rfl, rfl, by omega, by omega⟩
    · refine ifF (decide_eq_false hin) ?_
      rw [hc, rn_out hin, Nat.add_zero] at e
      refine ⟨_, rfl, ?_⟩
      rw [e]
      exact q
  · have hk2 : (tl z).drop k = [] := by
      refine List.drop_eq_nil_of_le ?_
      rw [tl_len]
      refine Nat.le_of_not_lt fun h => c (decide_eq_true ?_)
      omega
    rw [hk2, rn_nil, Nat.add_zero] at e
    refine iteF ⟨_, rfl, ?_⟩
    rw [e]
    exact q
end
end NL

namespace NL
open PySem PySem.Spec PyProof.Rows L2
/-! ### what an integer is -/
theorem szl' {n : Nat} (h : n ≤ 10000000) : n < sizeLine := Nat.lt_of_le_of_lt h (by decide)
def rmv : List Nat → List Nat
  | [] => []
  | c :: r => if c = 45 then r else c :: r
theorem rmv_eq (z : Str) : tl (Txt.removeprefix z "-") = rmv (tl z) := by
  have m : ("-" : Str).cps = #[45] := by decide +kernel
  have ml : ("-" : Str).length = 1 := by decide +kernel
  have hs : Builtin.Str.subAt z "-" 0 = decide ((tl z).take 1 = [45]) := by
    unfold Builtin.Str.subAt
    rw [m, ml, Bool.beq_eq_decide_eq]
    refine decide_eq_decide.mpr ⟨fun h => ?_, fun h => ?_⟩
    · have := congrArg Array.toList h
      rw [Array.toList_extract] at this
      exact this
    · refine Array.toList_inj.mp ?_
      rw [Array.toList_extract]
      exact h
  unfold Txt.removeprefix
  rw [hs, ml]
  cases e : tl z with
  | nil =>
    rw [if_neg (by simp)]
    exact e
  | cons c r =>
    by_cases hc : c = 45
    · subst hc
      rw [if_pos (by simp)]
      have hl : z.length = r.length + 1 := by rw [← tl_len, e, List.length_cons]
      show tl (if (z.length - 1 == z.length) = true then z else Builtin.Str.strSub z 1 z.length) = r
      rw [if_neg (by simp; omega)]
      show (z.cps.extract 1 z.length).toList = r
      rw [Array.toList_extract]
      show ((tl z).drop 1).take (z.length - 1) = r
      rw [e, hl]
      simp
    · rw [if_neg (by simp [hc])]
      show tl z = if c = 45 then r else c :: r
      rw [if_neg hc, e]
def isI (z : Str) : Bool := decide (z = "0") || (decide (¬ (rmv (tl z) = [] ∨ (rmv (tl z)).head? = some 48 ∨ 60 < (rmv (tl z)).length)) && decide (rn digs (rmv (tl z)) = (rmv (tl z)).length))
def isN (z : Str) : Bool := decide (z ≠ "") && (decide (z ∉ res) && decide (rn lets (tl z) = (tl z).length))
theorem tl_nil {z : Str} : tl z = [] ↔ z = "" := ⟨fun h => str_ext h, fun h => by rw [h]; decide +kernel⟩
theorem boolE {Q : VK} {b b' : Bool} {H : Hp} (h : b = b') (q : Q (.bl b') H) : Q (.bl b) H := by rw [h]; exact q
theorem intN {a b : Nat} : decide (V.int (a : Int) = V.int (b : Int)) = decide (a = b) := decide_eq_decide.mpr ⟨fun h => Int.ofNat.inj (V.int.inj h), fun h => by rw [h]⟩
section
variable {P : Program} {w : World} {K : PySem.W.Frag} {mg : Str → Option Value} {base : Heap}
/-! ### is_name -/
def spIsN : Sp := fun vs H Q _ => ∃ z : Str, vs = [.str z] ∧ z.length ≤ 10000000 ∧ Q (.bl (isN z)) H
theorem ok_is_name (T : Txt K mg) : FnOk P w K mg base CX0 2 T.ais_name T.dis_name Pis_name spIsN := by
  have Grun_end := ok_run_end (P := P) (w := w) (base := base) T
  refine T.Fis_name.ok scis_name (fun vs H Q E h => ?_) (fun cdv A outer s H vs Q E hr h => ?_)
  · obtain ⟨z, rfl, _⟩ := h
    rfl
  obtain ⟨z, rfl, hz, q⟩ := h
  refine ⟨_, (pss_one (ps_ret (pe_and (pe_cmpR op_ne (pv 0) pe_str (nomark _)) (pe_and (pe_cmpR op_notIn_seq (pv 0) (pe_glob (v := .ref T.c_WORDS) rfl T.g_WORDS rfl) (by rfl)) (pe_one (pe_cmpR op_eq (pe_call Grun_end (hr.mono (by omega)) (by rfl) T.mrun_end T.Frun_end.kp T.brun_end .nil pass0 (pa_cons (pv 0) (pa_cons pe_int (pa_cons (pe_glob rfl T.g_LETTERS T.r_LETTERS) pa_nil)))) (pe_callB call_len_str (by rfl) T.z_len PySem.boot_len (pa_cons (pv 0) pa_nil)) (nomark _))))))), ?_⟩
  refine ⟨_, rfl, rfl, _, rfl, ?_⟩
  refine ite2 (fun c => ?_) (fun c => ?_)
  · have h1 : z ≠ "" := fun e => by
      rw [e] at c
      revert c
      decide +kernel
    refine ⟨_, rfl, T.c_WORDS, _, rfl, .inr (.inr T.k_WORDS), rfl, by decide +kernel, _, rfl, ?_⟩
    rw [if_pos rfl, show [V.str "true", V.str "false", V.str "add", V.str "sub", V.str "mul", V.str "div", V.str "mod", V.str "min", V.str "max", V.str "abs", V.str "if", V.str "less", V.str "equal", V.str "not", V.str "all", V.str "any"] = res.map V.str from rfl, inV_str]
    refine ite2 (fun c2 => ?_) (fun c2 => ?_)
    · have h2 : z ∉ res := fun h => by
        rw [decide_eq_true h] at c2
        cases c2
      refine ⟨_, rfl, z, _, 0, rfl, Nat.zero_le _, hz, _, rfl, z, rfl, szl hz, rfl, ?_⟩
      refine boolE ?_ q
      rw [intN]
      unfold isN
      rw [decide_eq_true h1, decide_eq_true h2, Bool.true_and, Bool.true_and, Nat.zero_add, List.drop_zero, tl_len]
    · have h2 : z ∈ res := Decidable.byContradiction fun h => c2 (by rw [decide_eq_false h] <;> rfl)
      refine boolE ?_ q
      unfold isN
      rw [decide_eq_true h1, decide_eq_false (fun h => h h2), Bool.false_and, Bool.and_false]
  · refine boolE ?_ q
    have h1 : z = "" := Decidable.byContradiction fun h => c (by
      show (!decide (V.str z = V.str "")) = true
      rw [strE, decide_eq_false h]
      rfl)
    unfold isN
    rw [decide_eq_false (fun h => h h1), Bool.false_and]
/-! ### is_integer -/
def spIsI : Sp := fun vs H Q _ => ∃ z : Str, vs = [.str z] ∧ z.length ≤ 10000000 ∧ Q (.bl (isI z)) H
theorem isI_bad {z : Str} (h0 : z ≠ "0") (h : rmv (tl z) = [] ∨ (rmv (tl z)).head? = some 48 ∨ 60 < (rmv (tl z)).length) : false = isI z := by
  unfold isI
  rw [decide_eq_false h0, decide_eq_false (fun g => g h), Bool.false_or, Bool.false_and]
theorem ok_is_integer (T : Txt K mg) : FnOk P w K mg base CX0 2 T.ais_integer T.dis_integer Pis_integer spIsI := by
  have Grun_end := ok_run_end (P := P) (w := w) (base := base) T
  refine T.Fis_integer.ok scis_integer (fun vs H Q E h => ?_) (fun cdv A outer s H vs Q E hr h => ?_)
  · obtain ⟨z, rfl, _⟩ := h
    rfl
  obtain ⟨z, rfl, hz, q⟩ := h
  refine ⟨_, (pss_cons (ps_if (pt_cmpR op_eq (pv 0) pe_str (nomark _))
    (pss_one (ps_ret pe_bl))
    pss_nil)
    (pss_cons (ps_set (i := 1) scis_integer.nd rfl (Or.inl rfl) (pe_bm PySem.F.plainAttrs_str PySem.F.slot_str_removeprefix PySem.F.type_str_removeprefix mt_removeprefix (pv 0) (pa_cons pe_str pa_nil)))
    (pss_cons (ps_if (PW.pt (pw_or (pt_cmpR op_eq (pv 1) pe_str (nomark _)) (pw_or (pt_cmpR op_eq (pe_ix ix_str (pv 1) pe_int (fun _ _ => rfl)) pe_str (nomark _)) (pw_or1 (pt_cmpR op_gt (pe_callB call_len_str (by rfl) T.z_len PySem.boot_len (pa_cons (pv 1) pa_nil)) (pe_glob rfl T.g_MOST_DIGITS T.r_MOST_DIGITS) (nomark _))))))
    (pss_one (ps_ret pe_bl))
    pss_nil)
    (pss_one (ps_ret (pe_cmpR op_eq (pe_call Grun_end (hr.mono (by omega)) (by rfl) T.mrun_end T.Frun_end.kp T.brun_end .nil pass0 (pa_cons (pv 1) (pa_cons pe_int (pa_cons (pe_glob rfl T.g_DIGITS T.r_DIGITS) pa_nil)))) (pe_callB call_len_str (by rfl) T.z_len PySem.boot_len (pa_cons (pv 1) pa_nil)) (nomark _))))))), ?_⟩
  refine ⟨_, rfl, rfl, _, rfl, ?_⟩
  rw [strE]
  refine ite2 (fun c => ?_) (fun c => ?_)
  · refine boolE ?_ q
    unfold isI
    rw [c, Bool.true_or]
  have h0 : z ≠ "0" := fun h => c (decide_eq_true h)
  refine ⟨_, rfl, rfl, _, _, rfl, rfl, szl hz, ?_⟩
  have hd : tl (Txt.removeprefix z "-") = rmv (tl z) := rmv_eq z
  generalize Txt.removeprefix z "-" = d at hd
  have hdl : d.length ≤ 10000000 := by
    rw [← tl_len, hd]
    refine Nat.le_trans ?_ hz
    rw [← tl_len]
    cases tl z with
    | nil => exact Nat.le_refl _
    | cons c r =>
      show (if c = 45 then r else c :: r).length ≤ _
      split
      · rw [List.length_cons]; omega
      · exact Nat.le_refl _
  refine ⟨_, rfl, rfl, _, rfl, ?_⟩
  rw [strE]
  refine ite2 (fun c1 => iteT ?_) (fun c1 => ?_)
  · refine boolE (isI_bad h0 (.inl ?_)) q
    rw [← hd, of_decide_eq_true c1]
    decide +kernel
  have hne : tl d ≠ [] := fun h => c1 (decide_eq_true (tl_nil.mp h))
  obtain ⟨ch, r, hcr⟩ : ∃ ch r, tl d = ch :: r := by
    cases e : tl d with
    | nil => exact absurd e hne
    | cons a b => exact ⟨a, b, rfl⟩
  refine ⟨_, rfl, _, _, ch, rfl, rfl, szl hdl, ?_, rfl, _, rfl, ?_⟩
  · show atI (tl d) 0 = some ch
    rw [hcr]
    exact atI0
  have e48 : ("0" : Str) = ⟨#[48]⟩ := by decide +kernel
  rw [e48, show decide (V.str ⟨#[ch]⟩ = V.str ⟨#[48]⟩) = decide (ch = 48) from decide_eq_decide.mpr one_str]
  refine ite2 (fun c2 => iteT ?_) (fun c2 => ?_)
  · refine boolE (isI_bad h0 (.inr (.inl ?_))) q
    rw [← hd, hcr, of_decide_eq_true c2]
    rfl
  refine ⟨_, rfl, d, rfl, szl hdl, _, _, rfl, rfl, _, rfl, ?_⟩
  refine ite2 (fun c3 => ?_) (fun c3 => ?_)
  · refine boolE (isI_bad h0 (.inr (.inr ?_))) q
    have := of_decide_eq_true c3
    rw [← hd, tl_len]
    omega
  refine ⟨_, rfl, d, _, 0, rfl, Nat.zero_le _, hdl, _, rfl, d, rfl, szl hdl, rfl, ?_⟩
  refine boolE ?_ q
  have good : ¬ (tl d = [] ∨ (tl d).head? = some 48 ∨ 60 < (tl d).length) := by
    rintro (h | h | h)
    · exact hne h
    · rw [hcr] at h
      exact c2 (decide_eq_true (Option.some.inj h))
    · rw [tl_len] at h
      refine c3 (decide_eq_true ?_)
      show (60 : Int) < (d.length : Int)
      omega
  rw [intN]
  unfold isI
  rw [decide_eq_false h0, Bool.false_or, ← hd, decide_eq_true good, Bool.true_and, Nat.zero_add, List.drop_zero, tl_len]
/-! ### _piece_end -/
def spPiece : Sp := fun vs H Q _ => ∃ (z : Str) (n : Nat), vs = [.str z, .int (n : Int)] ∧ n < z.length ∧ z.length ≤ 10000000 ∧ Q (.int ((n + pc ((tl z).drop n) : Nat) : Int)) H
theorem ok_piece_end (T : Txt K mg) : FnOk P w K mg base CX0 2 T.a_piece_end T.d_piece_end P_piece_end spPiece := by
  have Grun_end := ok_run_end (P := P) (w := w) (base := base) T
  refine T.F_piece_end.ok sc_piece_end (fun vs H Q E h => ?_) (fun cdv A outer s H vs Q E hr h => ?_)
  · obtain ⟨z, n, rfl, _⟩ := h
    rfl
  obtain ⟨z, n, rfl, hn, hz, q⟩ := h
  refine ⟨_, (pss_cons (ps_if (pt_cmpR op_in_sign (pe_ix ix_str (pv 0) (pv 1) (fun _ _ => rfl)) (pe_glob rfl T.g_LETTERS T.r_LETTERS) (by rfl))
    (pss_one (ps_ret (pe_call Grun_end (hr.mono (by omega)) (by rfl) T.mrun_end T.Frun_end.kp T.brun_end .nil pass0 (pa_cons (pv 0) (pa_cons (pv 1) (pa_cons (pe_glob rfl T.g_LETTERS T.r_LETTERS) pa_nil))))))
    pss_nil)
    (pss_cons (ps_if (PW.pt (pw_or (pt_cmpR op_in_sign (pe_ix ix_str (pv 0) (pv 1) (fun _ _ => rfl)) (pe_glob rfl T.g_DIGITS T.r_DIGITS) (by rfl)) (pw_or1 (pt_cmpR op_eq (pe_ix ix_str (pv 0) (pv 1) (fun _ _ => rfl)) pe_str (nomark _)))))
    (pss_one (ps_ret (pe_call Grun_end (hr.mono (by omega)) (by rfl) T.mrun_end T.Frun_end.kp T.brun_end .nil pass0 (pa_cons (pv 0) (pa_cons (pe_op op_add (pv 1) pe_int) (pa_cons (pe_glob rfl T.g_DIGITS T.r_DIGITS) pa_nil))))))
    pss_nil)
    (pss_one (ps_ret (pe_op op_add (pv 1) pe_int))))), ?_⟩
  obtain ⟨ch, hc⟩ : ∃ ch, (tl z).drop n = ch :: (tl z).drop (n + 1) := ⟨_, List.drop_eq_getElem_cons (by rw [tl_len]; exact hn)⟩
  have hat : atI z.cps.toList (n : Int) = some ch := atI_nat (drop_cons hc).1
  have hpc : pc ((tl z).drop n) = if ch ∈ lets then rn lets ((tl z).drop n) else if ch ∈ digs ∨ ch = 45 then 1 + rn digs ((tl z).drop (n + 1)) else 1 := by
    rw [hc] <;> rfl
  refine ⟨_, rfl, _, rfl, _, _, ch, rfl, rfl, szl hz, hat, ch, _, rfl, rfl, _, rfl, ?_⟩
  refine ite2 (fun c => ?_) (fun c => ?_)
  · have h1 : ch ∈ lets := of_decide_eq_true c
    rw [if_pos h1] at hpc
    refine ⟨_, rfl, _, rfl, z, _, n, rfl, Nat.le_of_lt hn, hz, ?_⟩
    rw [hpc] at q
    exact q
  have h1 : ch ∉ lets := fun h => c (decide_eq_true h)
  rw [if_neg h1] at hpc
  have e45 : ("-" : Str) = ⟨#[45]⟩ := by decide +kernel
  by_cases hd : ch ∈ digs ∨ ch = 45
  · rw [if_pos hd] at hpc
    rw [hpc, ← Nat.add_assoc] at q
    refine' cutP ?f ?b
    case f =>
      intro body
      refine ⟨_, rfl, _, rfl, _, _, ch, rfl, rfl, szl hz, hat, ch, _, rfl, rfl, _, rfl, ?_⟩
      refine ite2 (fun c2 => iteT body) (fun c2 => ?_)
      refine ⟨_, rfl, _, rfl, _, _, ch, rfl, rfl, szl hz, hat, rfl, _, rfl, ?_⟩
      rw [e45, show decide (V.str ⟨#[ch]⟩ = V.str ⟨#[45]⟩) = decide (ch = 45) from decide_eq_decide.mpr one_str]
      exact ifT (decide_eq_true (hd.resolve_left fun h => c2 (decide_eq_true h))) body
    case b =>
      exact ⟨_, rfl, _, rfl, _, _, rfl, rfl, z, _, n + 1, rfl, hn, hz, q⟩
  · rw [if_neg hd] at hpc
    rw [hpc] at q
    refine ⟨_, rfl, _, rfl, _, _, ch, rfl, rfl, szl hz, hat, ch, _, rfl, rfl, _, rfl, ?_⟩
    refine ifF (decide_eq_false fun h => hd (.inl h)) ?_
    refine ⟨_, rfl, _, rfl, _, _, ch, rfl, rfl, szl hz, hat, rfl, _, rfl, ?_⟩
    rw [e45, show decide (V.str ⟨#[ch]⟩ = V.str ⟨#[45]⟩) = decide (ch = 45) from decide_eq_decide.mpr one_str]
    exact ifF (decide_eq_false fun h => hd (.inr h)) ⟨_, rfl, _, _, rfl, rfl, q⟩
/-! ### tokens_of -/
def spToksOf : Sp := fun vs H Q _ => ∃ (z : Str) (ts : List (Str × Nat)), vs = [.str z] ∧ z.length ≤ 10000000 ∧ Toks ((tl z).drop (rn sp (tl z))) (rn sp (tl z)) ts ∧
  ∀ q H', Same H H' → H q = none → TokIn H' q (ts ++ [(("" : Str), z.length + 1)]) → Q (.ref q) H'
theorem ok_tokens_of (T : Txt K mg) : FnOk P w K mg base CX0 3 T.atokens_of T.dtokens_of Ptokens_of spToksOf := by
  have Grun_end := ok_run_end (P := P) (w := w) (base := base) T
  have G_piece_end := ok_piece_end (P := P) (w := w) (base := base) T
  refine T.Ftokens_of.ok sctokens_of (fun vs H Q E h => ?_) (fun cdv A outer s H vs Q E hr h => ?_)
  · obtain ⟨z, ts, rfl, _⟩ := h
    rfl
  obtain ⟨z, ts, rfl, hz, ht, q⟩ := h
  refine ⟨_, (pss_cons (ps_set (i := 1) sctokens_of.nd rfl (Or.inl rfl) (pe_lst pa_nil))
    (pss_cons (ps_set (i := 2) sctokens_of.nd rfl (Or.inl rfl) (pe_call Grun_end (hr.mono (by omega)) (by rfl) T.mrun_end T.Frun_end.kp T.brun_end .nil pass0 (pa_cons (pv 0) (pa_cons pe_int (pa_cons pe_str pa_nil)))))
    (pss_cons (ps_while PassesOwn.never (pt_cmpR op_lt (pv 2) (pe_callB call_len_str (by rfl) T.z_len PySem.boot_len (pa_cons (pv 0) pa_nil)) (nomark _))
    (pss_cons (ps_set (i := 3) sctokens_of.nd rfl (Or.inl rfl) (pe_call G_piece_end (hr.mono (by omega)) (by rfl) T.m_piece_end T.F_piece_end.kp T.b_piece_end .nil pass0 (pa_cons (pv 0) (pa_cons (pv 2) pa_nil))))
    (pss_cons (ps_expr (pe_bm PySem.F.plainAttrs_list PySem.F.slot_list_append PySem.F.type_list_append mt_append (pv 1) (pa_cons (pe_tup (pa_cons (pe_slice sl_str (pv 0) (po_some (pv 2)) (po_some (pv 3))) (pa_cons (pe_op op_add (pv 2) pe_int) pa_nil))) pa_nil)))
    (pss_one (ps_set (i := 2) sctokens_of.nd rfl (Or.inl rfl) (pe_call Grun_end (hr.mono (by omega)) (by rfl) T.mrun_end T.Frun_end.kp T.brun_end .nil pass0 (pa_cons (pv 0) (pa_cons (pv 3) (pa_cons pe_str pa_nil)))))))))
    (pss_cons (ps_expr (pe_bm PySem.F.plainAttrs_list PySem.F.slot_list_append PySem.F.type_list_append mt_append (pv 1) (pa_cons (pe_tup (pa_cons pe_str (pa_cons (pe_op op_add (pe_callB call_len_str (by rfl) T.z_len PySem.boot_len (pa_cons (pv 0) pa_nil)) pe_int) pa_nil))) pa_nil)))
    (pss_one (ps_ret (pv 1))))))), ?_⟩
  refine ⟨(by decide), fun D hD => ?_⟩
  refine ⟨_, rfl, z, _, 0, rfl, Nat.zero_le _, hz, ?_⟩
  rw [Nat.zero_add, List.drop_zero]
  refine ⟨fun m σ H' => ∃ (k : Nat) (y : Option V) (acc rest : List (Str × Nat)) (xs : List V), σ = [some (.str z), some (.ref D), some (.int (k : Int)), y] ∧ Same H H' ∧ H' D = some (.lst xs) ∧ TokL H' xs acc ∧
    acc ++ rest = ts ∧ Toks ((tl z).drop k) k rest ∧ k ≤ z.length ∧ acc.length ≤ k ∧ m = z.length - k, ⟨_, rn sp (tl z), none, [], ts, [], rfl, same_new hD _, upd_same, ⟨rfl, fun k t h => by simp at h⟩, rfl, ht, ?_, Nat.zero_le _, rfl⟩, ?_⟩
  · rw [← tl_len]; exact rn_le _ _
  rintro m σ H' ⟨k, y, acc, rest, xs, rfl, s1, e1, t1, ea, hT, hk, ha, rfl⟩
  refine ⟨_, rfl, _, rfl, z, rfl, szl hz, _, _, rfl, rfl, _, rfl, ?_⟩
  refine ite2 (fun c => ?_) (fun c => ?_)
  · have hk2 : k < z.length := by
      have := of_decide_eq_true c
      omega
    refine ⟨fun σ' H'' => ∃ m', m' < z.length - k ∧ ∃ (k : Nat) (y : Option V) (acc rest : List (Str × Nat)) (xs : List V), σ' = [some (.str z), some (.ref D), some (.int (k : Int)), y] ∧ Same H H'' ∧ H'' D = some (.lst xs) ∧ TokL H'' xs acc ∧
      acc ++ rest = ts ∧ Toks ((tl z).drop k) k rest ∧ k ≤ z.length ∧ acc.length ≤ k ∧ m' = z.length - k, fun _ _ h => h, ?_⟩
    have hne : (tl z).drop k ≠ [] := fun h => by
      have := congrArg List.length h
      rw [List.length_drop, tl_len, List.length_nil] at this
      omega
    obtain ⟨p1, p2⟩ := pc_pos hne
    rw [List.length_drop, tl_len] at p2
    refine ⟨_, rfl, _, rfl, z, k, rfl, hk2, hz, ?_⟩
    generalize hl : (tl z).drop k = l at *
    cases hT with
    | nil => exact absurd rfl hne
    | cons h0 hT =>
      rename_i rest
      have hdr : ∀ j, l.drop j = (tl z).drop (k + j) := fun j => by rw [← hl, List.drop_drop]
      refine ⟨_, rfl, .inl ⟨rfl, _, sqd e1⟩, _, rfl, _, rfl, k, rfl, _, rfl, ((k + pc l : Nat) : Int), rfl, z, rfl, szl hz, _, rfl, _, _, rfl, rfl, (Nat.le_of_ble_eq_true rfl), fun p hp => ?_⟩
      have np : D ≠ p := ne_of_none e1 hp
      refine ⟨D, _, _, rfl, rfl, by rw [upd_ne np]; exact e1, ?_, ?_⟩
      · rw [t1.1]
        exact szl' (by omega)
      have t2 : TokL (upd H' p (.tup [.str (cutS z (some (k : Int)) (some ((k + pc l : Nat) : Int))), .int ((k : Int) + 1)])) (xs ++ [.ref p]) (acc ++ [(⟨(l.take (pc l)).toArray⟩, k + 1)]) := by
        refine (t1.mono (Tp.same (same_new hp _))).snoc ?_
        rw [upd_same, cut_mid (by omega) (by omega), hl, Nat.add_sub_cancel_left]
        rfl
      refine ⟨_, rfl, _, rfl, z, _, k + pc l, rfl, by omega, hz, ?_⟩
      have hrn := rn_le sp ((tl z).drop (k + pc l))
      rw [List.length_drop, tl_len] at hrn
      refine ⟨z.length - (k + pc l + rn sp ((tl z).drop (k + pc l))), by omega, k + pc l + rn sp ((tl z).drop (k + pc l)), _, acc ++ [(⟨(l.take (pc l)).toArray⟩, k + 1)], rest, xs ++ [.ref p], rfl, ?_, upd_same, t2.mono (tp_put (by rw [upd_ne np]; exact e1)), ?_, ?_, by omega, ?_, rfl⟩
      · refine same_put (s1.trans (same_new hp _)) hD
      · rw [List.append_assoc]
        exact ea
      · rw [hdr, List.drop_drop] at hT
        exact hT
      · rw [List.length_append, List.length_singleton]
        omega
  · have hk2 : (tl z).drop k = [] := by
      refine List.drop_eq_nil_of_le ?_
      rw [tl_len]
      refine Nat.le_of_not_lt fun h => c (decide_eq_true ?_)
      omega
    rw [hk2] at hT
    have hr0 : rest = [] := by
      cases hT with
      | nil => rfl
      | cons h _ => exact absurd rfl h
    subst hr0
    rw [List.append_nil] at ea
    subst ea
    refine ⟨_, rfl, .inl ⟨rfl, _, sqd e1⟩, _, rfl, z, rfl, szl hz, _, _, rfl, rfl, (Nat.le_of_ble_eq_true rfl), fun p hp => ?_⟩
    have np : D ≠ p := ne_of_none e1 hp
    refine ⟨D, _, _, rfl, rfl, by rw [upd_ne np]; exact e1, ?_, ?_⟩
    · rw [t1.1]
      exact szl' (by omega)
    refine ⟨_, rfl, ?_⟩
    refine q D _ (same_put (s1.trans (same_new hp _)) hD) hD ⟨_, upd_same, ?_⟩
    refine TokL.mono ?_ (tp_put (by rw [upd_ne np]; exact e1))
    refine (t1.mono (Tp.same (same_new hp _))).snoc ?_
    rw [upd_same]
    rfl
end
end NL

namespace NL
open PySem PySem.Spec PyProof.Rows L2
/-! ### the codes of an int's text -/
theorem itxt_nat (m : Nat) : tl (itxt (m : Int)) = TL.numL m := by
  show (Str.ofString (toString (m : Int))).cps.toList = _
  rw [show (Str.ofString (toString (m : Int))).cps.toList = (toString (m : Int)).toList.map Char.toNat from TL.tl_ofString _]
  show List.map Char.toNat (Nat.repr m).toList = _
  unfold Nat.repr TL.numL
  simp
theorem itxt_neg (m : Nat) : tl (itxt (-((m : Int) + 1))) = 45 :: TL.numL (m + 1) := by
  have e : (-((m : Int) + 1)) = Int.negSucc m := by omega
  rw [e]
  show (Str.ofString (toString (Int.negSucc m))).cps.toList = _
  rw [show (Str.ofString (toString (Int.negSucc m))).cps.toList = (toString (Int.negSucc m)).toList.map Char.toNat from TL.tl_ofString _]
  show List.map Char.toNat ("-" ++ Nat.repr (m + 1)).toList = _
  unfold Nat.repr TL.numL
  simp
theorem numL_digs {m : Nat} : ∀ c ∈ TL.numL m, c ∈ digs := fun c h => in_digs.mpr (TL.numL_digits m c h)
theorem numL_head : ∀ (m : Nat), 0 < m → ∃ c r, TL.numL m = c :: r ∧ c ≠ 48 := by
  intro m
  induction m using Nat.strongRecOn with
  | ind m ih =>
    intro h
    by_cases hm : 10 ≤ m
    · obtain ⟨c, r, e, hc⟩ := ih (m / 10) (by omega) (by omega)
      rw [TL.numL_step hm, e]
      exact ⟨c, r ++ [48 + m % 10], rfl, hc⟩
    · refine ⟨48 + m, [], ?_, by omega⟩
      have : m = 1 ∨ m = 2 ∨ m = 3 ∨ m = 4 ∨ m = 5 ∨ m = 6 ∨ m = 7 ∨ m = 8 ∨ m = 9 := by omega
      rcases this with rfl | rfl | rfl | rfl | rfl | rfl | rfl | rfl | rfl <;> decide +kernel
theorem int_two (n : Int) : (∃ m : Nat, n = m) ∨ ∃ m : Nat, n = -((m : Int) + 1) := by
  rcases Int.lt_or_le n 0 with h | h
  · exact .inr ⟨(-n - 1).toNat, by omega⟩
  · exact .inl ⟨n.toNat, by omega⟩
theorem isI_itxt {n : Int} (h : n.natAbs < 10 ^ 60) : isI (itxt n) = true := by
  unfold isI
  rcases int_two n with ⟨m, rfl⟩ | ⟨m, rfl⟩
  · by_cases h0 : m = 0
    · subst h0
      rw [decide_eq_true (show itxt ((0 : Nat) : Int) = "0" by decide +kernel), Bool.true_or]
    · obtain ⟨c, r, e, hc⟩ := numL_head m (by omega)
      have hd := numL_digs (m := m)
      have hl := TL.numL_len (n := m) (k := 60) (by decide) (by omega)
      rw [itxt_nat]
      have hr : rmv (TL.numL m) = TL.numL m := by
        rw [e] at hd ⊢
        have := in_digs.mp (hd c List.mem_cons_self)
        show (if c = 45 then r else c :: r) = _
        rw [if_neg (by omega)]
      have good : ¬ (TL.numL m = [] ∨ (TL.numL m).head? = some 48 ∨ 60 < (TL.numL m).length) := by
        rintro (h | h | h)
        · rw [e] at h; cases h
        · rw [e] at h; exact hc (Option.some.inj h)
        · omega
      rw [hr, rn_all hd, decide_eq_true good, decide_eq_true (rfl : (TL.numL m).length = _), Bool.and_self, Bool.or_true]
  · obtain ⟨c, r, e, hc⟩ := numL_head (m + 1) (by omega)
    have hd := numL_digs (m := m + 1)
    have hl := TL.numL_len (n := m + 1) (k := 60) (by decide) (by omega)
    rw [itxt_neg]
    have hr : rmv (45 :: TL.numL (m + 1)) = TL.numL (m + 1) := by
      show (if 45 = 45 then TL.numL (m + 1) else 45 :: TL.numL (m + 1)) = _
      rw [if_pos rfl]
    have good : ¬ (TL.numL (m + 1) = [] ∨ (TL.numL (m + 1)).head? = some 48 ∨ 60 < (TL.numL (m + 1)).length) := by
      rintro (h | h | h)
      · rw [e] at h; cases h
      · rw [e] at h; exact hc (Option.some.inj h)
      · omega
    rw [hr, rn_all hd, decide_eq_true good, decide_eq_true (rfl : (TL.numL (m + 1)).length = _), Bool.and_self, Bool.or_true]
theorem int_read {n : Int} (h : n.natAbs < 10 ^ 60) : intText? (itxt n) = some n ∧ (itxt n).length ≤ 61 := by
  rcases int_two n with ⟨m, rfl⟩ | ⟨m, rfl⟩
  · have hl := TL.numL_len (n := m) (k := 60) (by decide) (by omega)
    have hlen : (itxt (m : Int)).length ≤ 61 := by
      rw [← tl_len, itxt_nat]
      omega
    refine ⟨?_, hlen⟩
    have := intText_digits (x := itxt (m : Int)) (by show NumText.AllDigits (tl (itxt (m : Int))); rw [itxt_nat]; exact TL.numL_digits m) (by show tl (itxt (m : Int)) ≠ []; rw [itxt_nat]; exact TL.numL_ne m) (by omega)
    rw [this]
    show some ((NumText.digitsVal (tl (itxt (m : Int))) : Nat) : Int) = _
    rw [itxt_nat, TL.numL_val]
  · have hl := TL.numL_len (n := m + 1) (k := 60) (by decide) (by omega)
    have hlen : (itxt (-((m : Int) + 1))).length ≤ 61 := by
      rw [← tl_len, itxt_neg, List.length_cons]
      omega
    refine ⟨?_, hlen⟩
    have := intText_neg (x := itxt (-((m : Int) + 1))) (cs := TL.numL (m + 1)) (itxt_neg m) (TL.numL_digits _) (TL.numL_ne _) (by omega)
    rw [this, TL.numL_val]
    rfl
/-- words are no integers -/
theorem isI_wd {z : Str} (h : Wd z) (h0 : tl z ≠ []) : isI z = false := by
  obtain ⟨c, r, e⟩ : ∃ c r, tl z = c :: r := by
    cases e : tl z with
    | nil => exact absurd e h0
    | cons a b => exact ⟨a, b, rfl⟩
  have hc := h c (by show c ∈ tl z; rw [e]; exact List.mem_cons_self)
  have hr : rmv (tl z) = c :: r := by
    rw [e]
    show (if c = 45 then r else c :: r) = _
    rw [if_neg (by omega)]
  unfold isI
  have hz : z ≠ "0" := fun hz => by
    have e2 : tl z = [48] := by rw [hz]; decide +kernel
    rw [e] at e2
    cases e2
    omega
  have hcd : c ∉ digs := fun hd => by
    have := in_digs.mp hd
    omega
  rw [hr, rn_out hcd, decide_eq_false hz, decide_eq_false (show ¬ (0 = (c :: r).length) by rw [List.length_cons]; omega), Bool.and_false, Bool.false_or]
theorem isN_nam {z : Str} (h : Nam z) : isN z = true := by
  unfold isN
  have h0 : z ≠ "" := fun e => by
    have := h.len.1
    rw [e] at this
    exact absurd this (by decide +kernel)
  rw [decide_eq_true h0, decide_eq_true h.nr, rn_all (l := tl z) (fun c hc => in_lets.mpr (h.wd c hc)), decide_eq_true (rfl : (tl z).length = _)]
  rfl
theorem isN_res {z : Str} (h : z ∈ res) : isN z = false := by
  unfold isN
  rw [decide_eq_false (fun g : z ∉ res => g h), Bool.false_and, Bool.and_false]
/-! ### shapes of tokens -/
def Pn (t : Str) : Prop := t = "(" ∨ t = ")" ∨ t = ","
def NumT (t : Str) : Prop := ∃ c r, tl t = c :: r ∧ (c = 45 ∨ c ∈ digs) ∧ ∀ x ∈ r, x ∈ digs
def Tk (t : Str) : Prop := (tl t ≠ [] ∧ Wd t) ∨ NumT t ∨ Pn t
theorem pn_code {t : Str} (h : Pn t) : ∃ c, tl t = [c] ∧ (c = 40 ∨ c = 41 ∨ c = 44) := by
  have e : tl ("(" : Str) = [40] ∧ tl (")" : Str) = [41] ∧ tl ("," : Str) = [44] := by decide +kernel
  rcases h with rfl | rfl | rfl
  · exact ⟨40, e.1, .inl rfl⟩
  · exact ⟨41, e.2.1, .inr (.inl rfl)⟩
  · exact ⟨44, e.2.2, .inr (.inr rfl)⟩
theorem itxt_num (n : Int) : NumT (itxt n) := by
  rcases int_two n with ⟨m, rfl⟩ | ⟨m, rfl⟩
  · cases e : TL.numL m with
    | nil => exact absurd e (TL.numL_ne m)
    | cons c r =>
      have hd := numL_digs (m := m)
      rw [e] at hd
      exact ⟨c, r, by rw [itxt_nat, e], .inr (hd c List.mem_cons_self), fun x hx => hd x (List.mem_cons_of_mem _ hx)⟩
  · exact ⟨45, _, itxt_neg m, .inl rfl, numL_digs⟩
/-- a sign that goes on no token -/
def Cut (l : List Nat) : Prop := ∀ c r, l = c :: r → c ∉ lets ∧ c ∉ digs
theorem pc_tk {t : Str} {l : List Nat} (h : Tk t) (g : Pn t ∨ Cut l) : pc (tl t ++ l) = t.length ∧ ∃ c r, tl t = c :: r ∧ c ≠ 32 := by
  by_cases hp : Pn t
  · obtain ⟨c, e, hc⟩ := pn_code hp
    rw [← tl_len, e]
    have n1 : c ∉ lets := fun h => by have := in_lets.mp h; omega
    have n2 : ¬ (c ∈ digs ∨ c = 45) := by
      rintro (h | h)
      · have := in_digs.mp h; omega
      · omega
    refine ⟨?_, c, [], rfl, by omega⟩
    show (if c ∈ lets then _ else if c ∈ digs ∨ c = 45 then _ else 1) = 1
    rw [if_neg n1, if_neg n2]
  · have g := g.resolve_left hp
    rcases h with ⟨h0, hw⟩ | ⟨c, r, e, hc, hr⟩ | h
    · have hall : ∀ c ∈ tl t, c ∈ lets := fun c hc => in_lets.mpr (hw c hc)
      cases e : tl t with
      | nil => exact absurd e h0
      | cons c r =>
        rw [← tl_len]
        rw [e] at hall ⊢
        have hc := hall c List.mem_cons_self
        refine ⟨?_, c, r, rfl, by have := in_lets.mp hc; omega⟩
        show (if c ∈ lets then rn lets (c :: (r ++ l)) else _) = _
        rw [if_pos hc]
        have := rn_app (c :: r) l hall
        rw [rn_stop fun x y h => (g x y h).1] at this
        exact this
    · rw [← tl_len, e]
      have n1 : c ∉ lets := fun h => by
        have := in_lets.mp h
        rcases hc with hc | hc
        · omega
        · have := in_digs.mp hc; omega
      refine ⟨?_, c, r, rfl, ?_⟩
      · show (if c ∈ lets then _ else if c ∈ digs ∨ c = 45 then 1 + rn digs (r ++ l) else 1) = _
        rw [if_neg n1, if_pos (hc.symm), rn_app r l hr, rn_stop fun x y h => (g x y h).2, List.length_cons]
        omega
      · rcases hc with hc | hc
        · omega
        · have := in_digs.mp hc; omega
    · exact absurd h hp
/-! ### tokens with blanks before each and behind the last -/
inductive Lay : List Str → List Nat → Prop where
  | nil (k : Nat) : Lay [] (List.replicate k 32)
  | cons (k : Nat) {t : Str} {r : List Str} {c : List Nat} : Lay r c → Lay (t :: r) (List.replicate k 32 ++ (tl t ++ c))
def Alt : List Str → Prop
  | [] => True
  | [_] => True
  | a :: b :: r => (Pn a ∨ Pn b) ∧ Alt (b :: r)
theorem cut_blank {k : Nat} {l : List Nat} (h : Cut l) : Cut (List.replicate k 32 ++ l) := fun c r e => by
  cases k with
  | zero => exact h c r e
  | succ k =>
    rw [List.replicate_succ, List.cons_append] at e
    cases e
    exact ⟨fun h => by have := in_lets.mp h; omega, fun h => by have := in_digs.mp h; omega⟩
theorem lay_cut {r : List Str} {c : List Nat} (h : Lay r c) (g : r = [] ∨ ∃ b r', r = b :: r' ∧ Pn b) : Cut c := by
  cases h with
  | nil k =>
    have := cut_blank (k := k) (l := []) fun c r e => by cases e
    rw [List.append_nil] at this
    exact this
  | cons k hL =>
    rcases g with g | ⟨b, r', e, hp⟩
    · cases g
    · cases e
      refine cut_blank fun c r e => ?_
      obtain ⟨x, ex, hx⟩ := pn_code hp
      rw [ex] at e
      cases e
      exact ⟨fun h => by have := in_lets.mp h; omega, fun h => by have := in_digs.mp h; omega⟩
theorem rep_blank {k : Nat} : ∀ c ∈ List.replicate k 32, c ∈ sp := fun c h => in_blank.mpr (List.mem_replicate.mp h).2
theorem lay_toks {ts : List Str} {c : List Nat} (h : Lay ts c) : (∀ t ∈ ts, Tk t) → Alt ts → ∀ n, ∃ tc, Toks (c.drop (rn sp c)) (n + rn sp c) tc ∧ tc.map Prod.fst = ts := by
  induction h with
  | nil k =>
    intro _ _ n
    refine ⟨[], ?_, rfl⟩
    rw [rn_all rep_blank, List.drop_eq_nil_of_le (Nat.le_refl _)]
    exact .nil _
  | cons k hL ih =>
    rename_i t r c
    intro hk ha n
    have hT := hk t List.mem_cons_self
    have hcut : Pn t ∨ Cut c := by
      cases r with
      | nil => exact .inr (lay_cut hL (.inl rfl))
      | cons b r' => exact ha.1.imp id fun hb => lay_cut hL (.inr ⟨b, r', rfl, hb⟩)
    obtain ⟨hp, x, y, ex, hx⟩ := pc_tk (l := c) hT hcut
    have h0 : rn sp (tl t ++ c) = 0 := by
      rw [ex]
      exact rn_out fun h => hx (in_blank.mp h)
    rw [rn_app _ _ rep_blank, h0, Nat.add_zero, List.drop_left]
    have ha' : Alt r := by
      cases r with
      | nil => trivial
      | cons b r' => exact ha.2
    obtain ⟨tc, h1, h2⟩ := ih (fun u hu => hk u (List.mem_cons_of_mem _ hu)) ha' (n + k + t.length)
    have hd : (tl t ++ c).drop (pc (tl t ++ c)) = c := by
      rw [hp, ← tl_len, List.drop_left]
    have ht : (⟨((tl t ++ c).take (pc (tl t ++ c))).toArray⟩ : Str) = t := by
      rw [hp, ← tl_len, List.take_left]
      exact mk_tl t
    rw [List.length_replicate]
    refine ⟨(t, n + k + 1) :: tc, ?_, by rw [List.map_cons, h2]⟩
    have := Toks.cons (l := tl t ++ c) (n := n + k) (ts := tc) (by rw [ex]; exact List.cons_ne_nil _ _) (by rw [hd, hp]; exact h1)
    rw [ht] at this
    exact this
/-- the written form: a blank behind each comma -/
theorem lay_ct : ∀ (ts : List Str) (k : Nat), Lay ts (List.replicate k 32 ++ ct ts)
  | [], k => by
    rw [ct_nil, List.append_nil]
    exact .nil k
  | t :: r, k => by
    rw [ct_cons]
    by_cases h : t = ","
    · subst h
      have e : (sub ",").cps.toList = tl "," ++ List.replicate 1 32 := by decide +kernel
      rw [e, List.append_assoc]
      exact .cons k (lay_ct r 1)
    · rw [sub_ne h]
      exact .cons k (lay_ct r 0)
/-! ### the tokens of an item -/
inductive Pt where
  | ex (i : It)
  | dv (n : Int)
def Pt.tk : Pt → List Str
  | .ex i => i.tk
  | .dv n => [itxt n]
def It.pts : It → List Pt
  | .un _ a => [.ex a]
  | .dm _ a n => [.ex a, .dv n]
  | .bin _ a b => [.ex a, .ex b]
  | .tri a b c => [.ex a, .ex b, .ex c]
  | .grp _ l => l.map .ex
  | _ => []
def tlP : List Pt → List Str
  | [] => [")"]
  | p :: r => "," :: (p.tk ++ tlP r)
def opP : List Pt → List Str
  | [] => ["(", ")"]
  | p :: r => "(" :: (p.tk ++ tlP r)
theorem tlP_map : ∀ l : List It, tlP (l.map .ex) = (l.map It.tk).flatMap (fun t => ("," : Str) :: t) ++ ([")"] : List Str)
  | [] => rfl
  | a :: r => by
    show ("," : Str) :: (a.tk ++ tlP (r.map .ex)) = _
    rw [tlP_map r, List.map_cons, List.flatMap_cons, List.append_assoc, List.cons_append]
theorem tk_pts {i : It} (h : i.cls ≠ 0) : i.tk = i.word :: opP i.pts := by
  rw [tk_eq h]
  cases i with
  | num _ => exact absurd rfl h
  | name _ => exact absurd rfl h
  | lit _ => exact absurd rfl h
  | un w a => simp [It.word, It.kids, It.tailT, It.pts, opP, tlP, Pt.tk, sepF]
  | dm w a n => simp [It.word, It.kids, It.tailT, It.pts, opP, tlP, Pt.tk, sepF]
  | bin w a b => simp [It.word, It.kids, It.tailT, It.pts, opP, tlP, Pt.tk, sepF]
  | tri a b c => simp [It.word, It.kids, It.tailT, It.pts, opP, tlP, Pt.tk, sepF]
  | grp w l =>
    cases l with
    | nil => rfl
    | cons a r =>
      show ([w, "("] : List Str) ++ (a.tk ++ (r.map It.tk).flatMap (fun t => ("," : Str) :: t)) ++ [] ++ ([")"] : List Str) = w :: "(" :: (a.tk ++ tlP (r.map .ex))
      rw [tlP_map]
      simp
theorem pts_mem {i : It} {p : Pt} (h : p ∈ i.pts) : (∃ j ∈ i.kids, p = .ex j) ∨ ∃ n, p = .dv n := by
  cases i with
  | num _ => cases h
  | name _ => cases h
  | lit _ => cases h
  | un w a =>
    rw [List.mem_singleton.mp h]
    exact .inl ⟨a, List.mem_cons_self, rfl⟩
  | dm w a n =>
    simp only [It.pts, List.mem_cons, List.not_mem_nil, or_false] at h
    rcases h with rfl | rfl
    · exact .inl ⟨a, List.mem_cons_self, rfl⟩
    · exact .inr ⟨n, rfl⟩
  | bin w a b =>
    simp only [It.pts, List.mem_cons, List.not_mem_nil, or_false] at h
    rcases h with rfl | rfl
    · exact .inl ⟨a, by simp [It.kids], rfl⟩
    · exact .inl ⟨b, by simp [It.kids], rfl⟩
  | tri a b c =>
    simp only [It.pts, List.mem_cons, List.not_mem_nil, or_false] at h
    rcases h with rfl | rfl | rfl
    · exact .inl ⟨a, by simp [It.kids], rfl⟩
    · exact .inl ⟨b, by simp [It.kids], rfl⟩
    · exact .inl ⟨c, by simp [It.kids], rfl⟩
  | grp w l =>
    obtain ⟨j, hj, rfl⟩ := List.mem_map.mp h
    exact .inl ⟨j, hj, rfl⟩
theorem alt_cons {p : Str} {l : List Str} (hp : Pn p) (h : Alt l) : Alt (p :: l) := by
  cases l with
  | nil => trivial
  | cons b r => exact ⟨.inl hp, h⟩
theorem alt_two {w p : Str} {l : List Str} (hp : Pn p) (h : Alt (p :: l)) : Alt (w :: p :: l) := ⟨.inr hp, h⟩
theorem alt_app {p : Str} {l2 : List Str} (hp : Pn p) (h2 : Alt (p :: l2)) : ∀ l1, Alt l1 → Alt (l1 ++ p :: l2)
  | [], _ => h2
  | [a], _ => ⟨.inr hp, h2⟩
  | a :: b :: r, h => ⟨h.1, alt_app hp h2 (b :: r) h.2⟩
theorem pn_o : Pn "(" := .inl rfl
theorem pn_c : Pn ")" := .inr (.inl rfl)
theorem pn_k : Pn "," := .inr (.inr rfl)
def Good (ts : List Str) : Prop := (∀ t ∈ ts, Tk t) ∧ Alt ts
theorem good_tl : ∀ l : List Pt, (∀ p ∈ l, Good p.tk) → Good (tlP l) ∧ ∃ p r, tlP l = p :: r ∧ Pn p
  | [], _ => ⟨⟨fun t h => by rw [List.mem_singleton.mp h]; exact .inr (.inr pn_c), trivial⟩, _, _, rfl, pn_c⟩
  | p :: r, h => by
    obtain ⟨⟨g1, g2⟩, q, s, e, hq⟩ := good_tl r fun x hx => h x (List.mem_cons_of_mem _ hx)
    obtain ⟨k1, k2⟩ := h p List.mem_cons_self
    refine ⟨⟨fun t ht => ?_, ?_⟩, _, _, rfl, pn_k⟩
    · rcases List.mem_cons.mp ht with rfl | ht
      · exact .inr (.inr pn_k)
      · rcases List.mem_append.mp ht with ht | ht
        · exact k1 t ht
        · exact g1 t ht
    · show Alt (("," : Str) :: (p.tk ++ tlP r))
      refine alt_cons pn_k ?_
      rw [e] at g2 ⊢
      exact alt_app hq g2 _ k2
theorem good_op {w : Str} (hw : Tk w) : ∀ l : List Pt, (∀ p ∈ l, Good p.tk) → Good (w :: opP l)
  | [], _ => ⟨fun t ht => by
      rcases List.mem_cons.mp ht with rfl | ht
      · exact hw
      · rcases List.mem_cons.mp ht with rfl | ht
        · exact .inr (.inr pn_o)
        · rw [List.mem_singleton.mp ht]; exact .inr (.inr pn_c), alt_two pn_o (alt_cons pn_o trivial)⟩
  | p :: r, h => by
    obtain ⟨⟨g1, g2⟩, q, s, e, hq⟩ := good_tl r fun x hx => h x (List.mem_cons_of_mem _ hx)
    obtain ⟨k1, k2⟩ := h p List.mem_cons_self
    refine ⟨fun t ht => ?_, ?_⟩
    · rcases List.mem_cons.mp ht with rfl | ht
      · exact hw
      · rcases List.mem_cons.mp ht with rfl | ht
        · exact .inr (.inr pn_o)
        · rcases List.mem_append.mp ht with ht | ht
          · exact k1 t ht
          · exact g1 t ht
    · show Alt (w :: ("(" : Str) :: (p.tk ++ tlP r))
      refine alt_two pn_o (alt_cons pn_o ?_)
      rw [e] at g2 ⊢
      exact alt_app hq g2 _ k2
theorem good_int (n : Int) : Good [itxt n] := ⟨fun t h => by rw [List.mem_singleton.mp h]; exact .inr (.inl (itxt_num n)), trivial⟩
theorem nam_tk {z : Str} (h : Nam z) : Tk z := .inl ⟨fun e => by
  have h1 := h.len.1
  rw [← tl_len, e] at h1
  exact absurd h1 (by decide), h.wd⟩
theorem word_tk {xs : List Str} {B : Nat} {b : Bool} {i : It} (h : Okx xs B b i) : tl i.word ≠ [] ∧ Wd i.word := by
  refine ⟨?_, (word_wd h).1⟩
  have g : ∀ z ∈ (["number", "name", "true", "false", "abs", "not", "div", "mod", "add", "sub", "mul", "min", "max", "less", "equal", "if", "all", "any"] : List Str), tl z ≠ [] := by decide +kernel
  refine g _ ?_
  simp only [List.mem_cons, List.not_mem_nil, or_false]
  cases h with
  | num _ => simp [It.word]
  | name _ => simp [It.word]
  | lit => rename_i b; cases b <;> simp [It.word, bstr]
  | abs _ => simp [It.word]
  | not _ => simp [It.word]
  | dm hw _ _ _ =>
    simp only [List.mem_cons, List.not_mem_nil, or_false] at hw
    rcases hw with rfl | rfl <;> simp [It.word]
  | bin hw _ _ =>
    simp only [List.mem_cons, List.not_mem_nil, or_false] at hw
    rcases hw with rfl | rfl | rfl | rfl | rfl <;> simp [It.word]
  | cmp hw _ _ =>
    simp only [List.mem_cons, List.not_mem_nil, or_false] at hw
    rcases hw with rfl | rfl <;> simp [It.word]
  | tri _ _ _ => simp [It.word]
  | grp hw _ _ =>
    simp only [List.mem_cons, List.not_mem_nil, or_false] at hw
    rcases hw with rfl | rfl <;> simp [It.word]
theorem tk_good {xs : List Str} {B : Nat} (hx : ∀ x ∈ xs, Nam x) {b : Bool} {i : It} (h : Okx xs B b i) : Good i.tk := by
  refine kids_rec (p := fun i => Good i.tk) (fun b i h h0 => ?_) (fun b i h h0 ih => ?_) h
  · cases h with
    | num _ => rw [It.tk]; exact good_int _
    | name hm => rw [It.tk]; exact ⟨fun t ht => by rw [List.mem_singleton.mp ht]; exact nam_tk (hx _ hm), trivial⟩
    | lit =>
      rename_i b
      rw [It.tk]
      refine ⟨fun t ht => ?_, trivial⟩
      rw [List.mem_singleton.mp ht]
      exact .inl (word_tk (xs := xs) (B := B) (Okx.lit (b := b)))
    | abs _ => cases h0
    | not _ => cases h0
    | dm _ _ _ _ => cases h0
    | bin _ _ _ => cases h0
    | cmp _ _ _ => cases h0
    | tri _ _ _ => cases h0
    | grp _ _ _ => cases h0
  · rw [tk_pts h0]
    refine good_op (.inl (word_tk h)) _ fun p hp => ?_
    rcases pts_mem hp with ⟨j, hj, rfl⟩ | ⟨n, rfl⟩
    · exact ih j hj
    · exact good_int n
end NL

namespace NL
open PySem PySem.Spec PyProof.Rows L2
/-! ### parts, their kinds, what is read of them -/
inductive PtOk (xs : List Str) (B : Nat) : Str → Pt → Prop where
  | ex {i} : Okx xs B false i → PtOk xs B "expression" (.ex i)
  | te {i} : Okx xs B true i → PtOk xs B "condition" (.ex i)
  | dv {n : Int} : 1 ≤ n → n.natAbs ≤ B + 1 → PtOk xs B "divisor" (.dv n)
def PtIn (H : Hp) : Pt → V → Prop
  | .ex i, v => ItemIn H i v
  | .dv n, v => v = .int n
def Pt.dep : Pt → Nat
  | .ex i => i.dep
  | .dv _ => 0
inductive Mt (xs : List Str) (B : Nat) : List Str → List Pt → Prop where
  | nil : Mt xs B [] []
  | cons {k p ks ps} : PtOk xs B k p → Mt xs B ks ps → Mt xs B (k :: ks) (p :: ps)
theorem Mt.get {xs : List Str} {B : Nat} {ks : List Str} {ps : List Pt} (h : Mt xs B ks ps) : ∀ {j : Nat} {kd : Str}, ks[j]? = some kd → ∃ p, ps[j]? = some p ∧ PtOk xs B kd p := by
  induction h with
  | nil => intro j kd e; simp at e
  | cons h g ih =>
    intro j kd e
    cases j with
    | zero =>
      cases Option.some.inj e
      exact ⟨_, rfl, h⟩
    | succ j => exact ih (by simpa using e)
theorem Mt.len {xs : List Str} {B : Nat} {ks : List Str} {ps : List Pt} (h : Mt xs B ks ps) : ks.length = ps.length := by
  induction h with
  | nil => rfl
  | cons h g ih => rw [List.length_cons, List.length_cons, ih]
def PtsIn (H : Hp) (ps : List Pt) (vs : List V) : Prop := vs.length = ps.length ∧ ∀ (k : Nat) p v, ps[k]? = some p → vs[k]? = some v → PtIn H p v
theorem PtIn.mono {H H' : Hp} (t : Tp H H') : ∀ {p : Pt} {v : V}, PtIn H p v → PtIn H' p v
  | .ex _, _, h => ItemIn.mono t h
  | .dv _, _, h => h
theorem PtsIn.mono {H H' : Hp} (t : Tp H H') {ps : List Pt} {vs : List V} (h : PtsIn H ps vs) : PtsIn H' ps vs := ⟨h.1, fun k p v a b => (h.2 k p v a b).mono t⟩
theorem PtsIn.snoc {H : Hp} {ps : List Pt} {vs : List V} {p : Pt} {v : V} (h : PtsIn H ps vs) (hp : PtIn H p v) : PtsIn H (ps ++ [p]) (vs ++ [v]) := by
  obtain ⟨hl, hin⟩ := h
  refine ⟨by rw [List.length_append, List.length_append, hl] <;> rfl, fun k j x h1 h2 => ?_⟩
  by_cases hk : k < ps.length
  · rw [List.getElem?_append_left (by omega)] at h1 h2
    exact hin k j x h1 h2
  · have hk3 : k = ps.length := by
      have := (List.getElem?_eq_some_iff.mp h1).1
      rw [List.length_append, List.length_singleton] at this
      omega
    subst hk3
    rw [List.getElem?_append_right (by omega), Nat.sub_self] at h1
    rw [List.getElem?_append_right (by omega), hl, Nat.sub_self] at h2
    obtain rfl : p = j := Option.some.inj h1
    obtain rfl : v = x := Option.some.inj h2
    exact hp
theorem pts0 {H : Hp} : PtsIn H [] [] := ⟨rfl, fun k p v h _ => by simp at h⟩
theorem len1 {α : Type} {l : List α} (h : l.length = 1) : ∃ a, l = [a] := by
  match l, h with
  | [a], _ => exact ⟨a, rfl⟩
theorem len2 {α : Type} {l : List α} (h : l.length = 2) : ∃ a b, l = [a, b] := by
  match l, h with
  | [a, b], _ => exact ⟨a, b, rfl⟩
theorem len3 {α : Type} {l : List α} (h : l.length = 3) : ∃ a b c, l = [a, b, c] := by
  match l, h with
  | [a, b, c], _ => exact ⟨a, b, c, rfl⟩
theorem item_pts {H : Hp} {i : It} {vs : List V} {a : Addr} (h0 : i.cls ≠ 0) (h1 : i.cls ≠ 1) (e : H a = some (.tup (.str i.word :: vs))) (h : PtsIn H i.pts vs) : ItemIn H i (.ref a) := by
  cases i with
  | num _ => exact absurd rfl h0
  | name _ => exact absurd rfl h0
  | lit _ => exact absurd rfl h0
  | grp _ _ => exact absurd rfl h1
  | un w x =>
    obtain ⟨v, rfl⟩ := len1 h.1
    exact .un e (h.2 0 _ _ rfl rfl)
  | dm w x n =>
    obtain ⟨v, u, rfl⟩ := len2 h.1
    have hu : u = .int n := h.2 1 _ _ rfl rfl
    subst hu
    exact .dm e (h.2 0 _ _ rfl rfl)
  | bin w x y =>
    obtain ⟨v, u, rfl⟩ := len2 h.1
    exact .bin e (h.2 0 _ _ rfl rfl) (h.2 1 _ _ rfl rfl)
  | tri x y z =>
    obtain ⟨v, u, t, rfl⟩ := len3 h.1
    exact .tri e (h.2 0 _ _ rfl rfl) (h.2 1 _ _ rfl rfl) (h.2 2 _ _ rfl rfl)
theorem row_ex {xs : List Str} {B : Nat} {i : It} (h : Okx xs B false i) (h0 : i.cls ≠ 0) : ∃ ks, (i.word, ks) ∈ rows_EXPRESSION_PARTS ∧ Mt xs B ks i.pts ∧ i.cls ≠ 1 ∧ i.pts ≠ [] := by
  cases h with
  | num _ => exact absurd rfl h0
  | name _ => exact absurd rfl h0
  | abs h => exact ⟨["expression"], by simp [rows_EXPRESSION_PARTS, It.word], .cons (.ex h) .nil, by simp [It.cls], by simp [It.pts]⟩
  | dm hw h h1 h2 =>
    refine ⟨["expression", "divisor"], ?_, .cons (.ex h) (.cons (.dv h1 h2) .nil), by simp [It.cls], by simp [It.pts]⟩
    simp only [List.mem_cons, List.not_mem_nil, or_false] at hw
    rcases hw with rfl | rfl <;> simp [rows_EXPRESSION_PARTS, It.word]
  | bin hw h g =>
    refine ⟨["expression", "expression"], ?_, .cons (.ex h) (.cons (.ex g) .nil), by simp [It.cls], by simp [It.pts]⟩
    simp only [List.mem_cons, List.not_mem_nil, or_false] at hw
    rcases hw with rfl | rfl | rfl | rfl | rfl <;> simp [rows_EXPRESSION_PARTS, It.word]
  | tri h g k => exact ⟨["condition", "expression", "expression"], by simp [rows_EXPRESSION_PARTS, It.word], .cons (.te h) (.cons (.ex g) (.cons (.ex k) .nil)), by simp [It.cls], by simp [It.pts]⟩
theorem row_te {xs : List Str} {B : Nat} {i : It} (h : Okx xs B true i) (h0 : i.cls ≠ 0) (h1 : i.cls ≠ 1) : ∃ ks, (i.word, ks) ∈ rows_CONDITION_PARTS ∧ Mt xs B ks i.pts ∧ i.pts ≠ [] := by
  cases h with
  | lit => exact absurd rfl h0
  | not h => exact ⟨["condition"], by simp [rows_CONDITION_PARTS, It.word], .cons (.te h) .nil, by simp [It.pts]⟩
  | cmp hw h g =>
    refine ⟨["expression", "expression"], ?_, .cons (.ex h) (.cons (.ex g) .nil), by simp [It.pts]⟩
    simp only [List.mem_cons, List.not_mem_nil, or_false] at hw
    rcases hw with rfl | rfl <;> simp [rows_CONDITION_PARTS, It.word]
  | grp _ _ _ => exact absurd rfl h1
theorem pts_dep {i : It} {p : Pt} (h : p ∈ i.pts) : p.dep + 1 ≤ i.dep := by
  have hd := @kids_dep i
  have hp := dep_pos i
  rcases pts_mem h with ⟨j, hj, rfl⟩ | ⟨n, rfl⟩
  · have h1 := depL_in hj
    show j.dep + 1 ≤ _
    omega
  · exact hp
theorem tlen (xs : List Str) (h : ∀ x ∈ xs, Nam x) {x : Str} (hx : x ∈ xs) : x.length ≤ 10000000 := by
  have := (h x hx).len
  omega
section
variable {P : Program} {w : World} {K : PySem.W.Frag} {mg : Str → Option Value} {base : Heap}
/-! ### _pass_token -/
abbrev wds (ts : List (Str × Nat)) : List Str := ts.map Prod.fst
def spPass : Sp := fun vs H Q _ => ∃ (q : Addr) (n : Nat) (w : Str) (ts : List (Str × Nat)) (r : List Str), vs = [.ref q, .int (n : Int), .str w] ∧ TokIn H q ts ∧ (wds ts).drop n = w :: r ∧ Q (.int ((n + 1 : Nat) : Int)) H
theorem ok_pass_token (T : Txt K mg) : FnOk P w K mg base CX0 1 T.a_pass_token T.d_pass_token P_pass_token spPass := by
  refine T.F_pass_token.ok sc_pass_token (fun vs H Q E h => ?_) (fun cdv A outer s H vs Q E hr h => ?_)
  · obtain ⟨q, n, w, ts, r, rfl, _⟩ := h
    rfl
  obtain ⟨q, n, w, ts, r, rfl, ht, hw, k⟩ := h
  refine ⟨_, (pss_cons (ps_asg (pe_ix ix_list (pv 0) (pv 1) (fun _ _ => rfl)) (pg_tup rfl (pgs_cons (pg_name (i := 3) sc_pass_token.nd rfl (Or.inl rfl)) (pgs_cons (pg_name (i := 4) sc_pass_token.nd rfl (Or.inl rfl)) pgs_nil))))
    (pss_cons (ps_if (pt_cmpR op_ne (pv 3) (pv 2) (nomark _))
    (pss_one ps_never)
    pss_nil)
    (pss_one (ps_ret (pe_op op_add (pv 1) pe_int))))), ?_⟩
  obtain ⟨xs, a, c, eq, hat, ha⟩ := ht.get hw
  refine ⟨_, rfl, _, rfl, q, xs, _, _, rfl, rfl, sqd eq, hat, a, _, rfl, sqt ha, rfl, _, _, rfl, _, _, rfl, rfl, ?_⟩
  refine ⟨_, rfl, _, rfl, rfl, _, rfl, ifF ?_ ?_⟩
  · rw [decide_eq_true rfl]; rfl
  exact ⟨_, rfl, _, _, rfl, rfl, k⟩
/-! ### _read_divisor -/
def spDiv : Sp := fun vs H Q _ => ∃ (q : Addr) (n : Nat) (ts : List (Str × Nat)) (r : List Str) (k : Int), vs = [.ref q, .int (n : Int)] ∧ TokIn H q ts ∧ (wds ts).drop n = itxt k :: r ∧ 1 ≤ k ∧ k.natAbs < 10 ^ 60 ∧
  ∀ p H', Same H H' → H' p = some (.tup [.int k, .int ((n + 1 : Nat) : Int)]) → Q (.ref p) H'
theorem ok_read_divisor (T : Txt K mg) : FnOk P w K mg base CX0 3 T.a_read_divisor T.d_read_divisor P_read_divisor spDiv := by
  have Gis_integer := ok_is_integer (P := P) (w := w) (base := base) T
  refine T.F_read_divisor.ok sc_read_divisor (fun vs H Q E h => ?_) (fun cdv A outer s H vs Q E hr h => ?_)
  · obtain ⟨q, n, ts, r, k, rfl, _⟩ := h
    rfl
  obtain ⟨q, n, ts, r, k, rfl, ht, hw, k1, k2, g⟩ := h
  refine ⟨_, (pss_cons (ps_asg (pe_ix ix_list (pv 0) (pv 1) (fun _ _ => rfl)) (pg_tup rfl (pgs_cons (pg_name (i := 2) sc_read_divisor.nd rfl (Or.inl rfl)) (pgs_cons (pg_name (i := 3) sc_read_divisor.nd rfl (Or.inl rfl)) pgs_nil))))
    (pss_cons (ps_if (PW.pt (pw_or (pt_not (pt_val (pe_call Gis_integer (hr.mono (by omega)) (by rfl) T.mis_integer T.Fis_integer.kp T.bis_integer .nil pass0 (pa_cons (pv 2) pa_nil)))) (pw_or1 (pt_cmpR op_lt (pe_callTy call_int_str (by rfl) T.z_int (by decide +kernel) (pa_cons (pv 2) pa_nil)) pe_int (nomark _)))))
    (pss_one ps_never)
    pss_nil)
    (pss_one (ps_ret (pe_tup (pa_cons (pe_callTy call_int_str (by rfl) T.z_int (by decide +kernel) (pa_cons (pv 2) pa_nil)) (pa_cons (pe_op op_add (pv 1) pe_int) pa_nil))))))), ?_⟩
  obtain ⟨xs, a, c, eq, hat, ha⟩ := ht.get hw
  obtain ⟨hi, hl⟩ := int_read k2
  refine ⟨_, rfl, _, rfl, q, xs, _, _, rfl, rfl, sqd eq, hat, a, _, rfl, sqt ha, rfl, _, _, rfl, _, _, rfl, rfl, ?_⟩
  refine ⟨_, rfl, _, rfl, Nat.le_trans hl (by decide), _, rfl, ?_⟩
  refine ifF (by rw [isI_itxt k2] <;> rfl) ?_
  refine ⟨_, rfl, _, k, rfl, hi, Nat.le_trans hl (by decide), _, _, rfl, rfl, _, rfl, ?_⟩
  refine ifF (decide_eq_false (by omega)) ?_
  refine ⟨_, rfl, _, k, rfl, hi, Nat.le_trans hl (by decide), _, rfl, _, _, rfl, rfl, (Nat.le_of_ble_eq_true rfl), fun p hp => ?_⟩
  exact g p _ (same_new hp _) upd_same
/-! ### the promises of the readers -/
structure Rd (xs : List Str) (B : Nat) : Prop where
  nm : ∀ x ∈ xs, Nam x
  bd : B < 10 ^ 60 - 1
def spPart (m : Nat) : Sp := fun vs H Q _ => ∃ (q : Addr) (n dp : Nat) (kd : Str) (ts : List (Str × Nat)) (r xs : List Str) (B : Nat) (p : Pt), vs = [.ref q, .int (n : Int), .str kd, .int (dp : Int)] ∧ TokIn H q ts ∧ (wds ts).drop n = p.tk ++ r ∧
  PtOk xs B kd p ∧ Rd xs B ∧ p.dep ≤ m ∧ p.dep + dp ≤ 13 ∧ ∀ a v H', Same H H' → H' a = some (.tup [v, .int ((n + p.tk.length : Nat) : Int)]) → PtIn H' p v → Q (.ref a) H'
def spEC (b : Bool) (m : Nat) : Sp := fun vs H Q _ => ∃ (q : Addr) (n dp : Nat) (ts : List (Str × Nat)) (r xs : List Str) (B : Nat) (i : It), vs = [.ref q, .int (n : Int), .int (dp : Int)] ∧ TokIn H q ts ∧ (wds ts).drop n = i.tk ++ r ∧
  Okx xs B b i ∧ Rd xs B ∧ i.dep ≤ m ∧ i.dep + dp ≤ 13 ∧ ∀ a v H', Same H H' → H' a = some (.tup [v, .int ((n + i.tk.length : Nat) : Int)]) → ItemIn H' i v → Q (.ref a) H'
def spRParts (K : PySem.W.Frag) (m : Nat) : Sp := fun vs H Q _ => ∃ (q kt : Addr) (n dp : Nat) (ts : List (Str × Nat)) (r xs ks : List Str) (B : Nat) (ps : List Pt), vs = [.ref q, .int (n : Int), .ref kt, .int (dp : Int)] ∧ TokIn H q ts ∧ (wds ts).drop n = opP ps ++ r ∧
  KT K kt (ks.map V.str) ∧ Mt xs B ks ps ∧ ps ≠ [] ∧ ps.length ≤ 1000 ∧ Rd xs B ∧ (∀ p ∈ ps, p.dep ≤ m ∧ p.dep + dp ≤ 13) ∧
  ∀ a t vs H', Same H H' → H' a = some (.tup [.ref t, .int ((n + (opP ps).length : Nat) : Int)]) → H' t = some (.tup vs) → PtsIn H' ps vs → Q (.ref a) H'
def spConds (m : Nat) : Sp := fun vs H Q _ => ∃ (q : Addr) (n dp : Nat) (ts : List (Str × Nat)) (r xs : List Str) (B : Nat) (l : List It), vs = [.ref q, .int (n : Int), .int (dp : Int)] ∧ TokIn H q ts ∧ (wds ts).drop n = opP (l.map .ex) ++ r ∧
  l.length ≤ 1000 ∧ Rd xs B ∧ (∀ i ∈ l, Okx xs B true i ∧ i.dep ≤ m ∧ i.dep + dp ≤ 13) ∧
  ∀ a t vs H', Same H H' → H' a = some (.tup [.ref t, .int ((n + (opP (l.map .ex)).length : Nat) : Int)]) → H' t = some (.tup vs) → Kids H' l vs → Q (.ref a) H'
/-- what stands ahead of part j, and what stands from there on -/
def bef (j : Nat) : Str := if j = 0 then "(" else ","
def rem (ps : List Pt) (j : Nat) : List Str := if j = 0 then opP ps else tlP (ps.drop j)
theorem rem_at {ps : List Pt} {j : Nat} {p : Pt} (h : ps[j]? = some p) : rem ps j = bef j :: (p.tk ++ rem ps (j + 1)) := by
  have hj := (List.getElem?_eq_some_iff.mp h)
  have e : ps.drop j = p :: ps.drop (j + 1) := by
    rw [List.drop_eq_getElem_cons hj.1, hj.2]
  unfold rem bef
  rw [if_neg (Nat.succ_ne_zero j)]
  by_cases h0 : j = 0
  · subst h0
    rw [if_pos rfl, if_pos rfl]
    rw [List.drop_zero] at e
    rw [e]
    show ("(" : Str) :: (p.tk ++ tlP (ps.drop 1)) = _
    rfl
  · rw [if_neg h0, if_neg h0, e]
    rfl
theorem drop_len {ws a r : List Str} {n : Nat} (h : ws.drop n = a ++ r) : ws.drop (n + a.length) = r := by
  rw [← List.drop_drop, h, List.drop_left]
theorem ok_read_parts (T : Txt K mg) {m k : Nat} (hk : 1 ≤ k) (G_read_part : FnOk P w K mg base CX0 k T.a_read_part T.d_read_part P_read_part (spPart m)) :
    FnOk P w K mg base CX0 (k + 1) T.a_read_parts T.d_read_parts P_read_parts (spRParts K m) := by
  have G_pass_token := ok_pass_token (P := P) (w := w) (base := base) T
  refine T.F_read_parts.ok sc_read_parts (fun vs H Q E h => ?_) (fun cdv A outer s H vs Q E hr h => ?_)
  · obtain ⟨q, kt, n, dp, ts, r, xs, ks, B, ps, rfl, _⟩ := h
    rfl
  obtain ⟨q, kt, n, dp, ts, r, xs, ks, B, ps, rfl, ht, hw, hkt, hm, hne, hpl, hR, hdep, g⟩ := h
  refine ⟨_, (pss_cons (ps_set (i := 4) sc_read_parts.nd rfl (Or.inl rfl) (pe_lst pa_nil))
    (pss_cons (ps_set (i := 5) sc_read_parts.nd rfl (Or.inl rfl) pe_str)
    (pss_cons (ps_for PassesOwn.never rfl (pi_tup (pv 2)) (pg_name (i := 6) sc_read_parts.nd rfl (Or.inl rfl))
    (pss_cons (ps_asg (pe_call G_read_part (hr.mono (by omega)) (by rfl) T.m_read_part T.F_read_part.kp T.b_read_part .nil pass0 (pa_cons (pv 0) (pa_cons (pe_call G_pass_token (hr.mono (by omega)) (by rfl) T.m_pass_token T.F_pass_token.kp T.b_pass_token .nil pass0 (pa_cons (pv 0) (pa_cons (pv 1) (pa_cons (pv 5) pa_nil)))) (pa_cons (pv 6) (pa_cons (pv 3) pa_nil))))) (pg_tup rfl (pgs_cons (pg_name (i := 7) sc_read_parts.nd rfl (Or.inl rfl)) (pgs_cons (pg_name (i := 1) sc_read_parts.nd rfl (Or.inl rfl)) pgs_nil))))
    (pss_cons (ps_expr (pe_bm PySem.F.plainAttrs_list PySem.F.slot_list_append PySem.F.type_list_append mt_append (pv 4) (pa_cons (pv 7) pa_nil)))
    (pss_one (ps_set (i := 5) sc_read_parts.nd rfl (Or.inl rfl) pe_str)))))
    (pss_one (ps_ret (pe_tup (pa_cons (pe_callTy call_tuple_of (by rfl) T.z_tuple (by decide +kernel) (pa_cons (pv 4) pa_nil)) (pa_cons (pe_call G_pass_token (hr.mono (by omega)) (by rfl) T.m_pass_token T.F_pass_token.kp T.b_pass_token .nil pass0 (pa_cons (pv 0) (pa_cons (pv 1) (pa_cons pe_str pa_nil)))) pa_nil)))))))), ?_⟩
  have hml := hm.len
  refine ⟨(by decide), fun D hD => ?_⟩
  refine ⟨_, rfl, kt, rfl, ⟨_, .inr hkt⟩, for_tup (K := K) (a := kt) (xs := ks.map V.str) (fun j σ H' => ∃ (nj : Nat) (vs : List V) (y6 y7 : Option V), σ = [some (.ref q), some (.int (nj : Int)), some (.ref kt), some (.int (dp : Int)), some (.ref D), some (.str (bef j)), y6, y7] ∧
    Same H H' ∧ H' D = some (.lst vs) ∧ PtsIn H' (ps.take j) vs ∧ (wds ts).drop nj = rem ps j ++ r ∧ nj + (rem ps j).length = n + (opP ps).length) ?_ ?_ ?_ ?_⟩
  · exact ⟨n, [], none, none, rfl, same_new hD _, upd_same, by rw [List.take_zero]; exact pts0, hw, rfl⟩
  · rintro j σ H' _ _
    exact .inr hkt
  · rintro j x σ H' hx ⟨nj, vs, y6, y7, rfl, s1, e1, hin, hwj, hl⟩
    rw [List.getElem?_map] at hx
    cases hkd : ks[j]? with
    | none => rw [hkd] at hx; cases hx
    | some kd =>
      rw [hkd] at hx
      obtain rfl : V.str kd = x := Option.some.inj hx
      obtain ⟨p, hp, hpo⟩ := hm.get hkd
      obtain ⟨d1, d2⟩ := hdep p (List.mem_of_getElem? hp)
      have hra := rem_at hp
      rw [hra] at hwj hl
      rw [List.length_cons, List.length_append] at hl
      have hnx : (wds ts).drop (nj + 1) = p.tk ++ (rem ps (j + 1) ++ r) := by
        rw [← List.drop_drop, hwj, List.cons_append, List.drop_one, List.tail_cons, List.append_assoc]
      refine ⟨_, rfl, _, rfl, _, rfl, _, rfl, q, nj, bef j, ts, _, rfl, ht.same s1, hwj, ?_⟩
      refine ⟨_, rfl, _, rfl, q, nj + 1, dp, kd, ts, _, xs, B, p, rfl, ht.same s1, hnx, hpo, hR, d1, d2, fun a v H2 s2 ea hv => ?_⟩
      refine ⟨a, _, rfl, sqt ea, rfl, _, _, rfl, _, _, rfl, rfl, ?_⟩
      have e2 := s2 _ _ e1
      refine ⟨_, rfl, .inl ⟨rfl, _, sqd e2⟩, _, rfl, D, _, _, rfl, rfl, e2, ?_, ?_⟩
      · rw [hin.1, List.length_take]
        exact big' (by omega)
      refine ⟨nj + 1 + p.tk.length, vs ++ [v], some (.str kd), some v, ?_, same_put (s1.trans s2) hD, upd_same, ?_, drop_len hnx, by omega⟩
      · unfold bef
        rw [if_neg (Nat.succ_ne_zero j)]
        rfl
      · rw [List.take_add_one, hp]
        exact (((hin.mono (Tp.same s2)).snoc hv)).mono (tp_put e2)
  · rintro σ H' ⟨nj, vs, y6, y7, rfl, s1, e1, hin, hwj, hl⟩
    rw [List.length_map, hml] at hin hwj hl
    rw [List.take_length] at hin
    have hrem : rem ps ps.length = ([")"] : List Str) := by
      unfold rem
      rw [if_neg (by rw [List.length_eq_zero_iff]; exact hne), List.drop_length]
      rfl
    rw [hrem] at hwj hl
    refine ⟨_, rfl, D, _, rfl, .inl ⟨sqd e1, fun t ht' => ?_⟩⟩
    have s2 := s1.trans (same_new ht' (.tup vs))
    refine ⟨_, rfl, _, rfl, q, nj, ")", ts, r, rfl, ht.same s2, hwj, (Nat.le_of_ble_eq_true rfl), fun a ha => ?_⟩
    have s3 := fun o => same_new ha o
    refine g a t vs _ (s2.trans (s3 _)) ?_ (s3 _ _ _ upd_same) (hin.mono (Tp.same ((same_new ht' _).trans (s3 _))))
    rw [upd_same]
    have : nj + 1 = n + (opP ps).length := hl
    rw [this]
/-! ### _read_conditions -/
theorem cond_word {xs : List Str} {B : Nat} {i : It} (h : Okx xs B true i) : ∃ r, i.tk = i.word :: r := by
  by_cases h0 : i.cls = 0
  · cases h with
    | lit => rw [It.tk]; exact ⟨[], rfl⟩
    | not _ => cases h0
    | cmp _ _ _ => cases h0
    | grp _ _ _ => cases h0
  · exact ⟨_, tk_pts h0⟩
theorem wd_par {z : Str} (h : Wd z) : z ≠ ")" := fun e => by
  rw [e] at h
  exact absurd h (by decide +kernel)
end
end NL

namespace NL
open PySem PySem.Spec PyProof.Rows L2
section
variable {P : Program} {w : World} {K : PySem.W.Frag} {mg : Str → Option Value} {base : Heap}
theorem ok_read_conditions (T : Txt K mg) {m k : Nat} (hk : 1 ≤ k) (G_read_part : FnOk P w K mg base CX0 k T.a_read_part T.d_read_part P_read_part (spPart m)) :
    FnOk P w K mg base CX0 (k + 1) T.a_read_conditions T.d_read_conditions P_read_conditions (spConds m) := by
  have G_pass_token := ok_pass_token (P := P) (w := w) (base := base) T
  refine T.F_read_conditions.ok sc_read_conditions (fun vs H Q E h => ?_) (fun cdv A outer s H vs Q E hr h => ?_)
  · obtain ⟨q, n, dp, ts, r, xs, B, l, rfl, _⟩ := h
    rfl
  obtain ⟨q, n, dp, ts, r, xs, B, l, rfl, ht, hw, hl, hR, hall, g⟩ := h
  refine ⟨_, (pss_cons (ps_set (i := 1) sc_read_conditions.nd rfl (Or.inl rfl) (pe_call G_pass_token (hr.mono (by omega)) (by rfl) T.m_pass_token T.F_pass_token.kp T.b_pass_token .nil pass0 (pa_cons (pv 0) (pa_cons (pv 1) (pa_cons pe_str pa_nil)))))
    (pss_cons (ps_if (pt_cmpR op_eq (pe_ix ix_tup (pe_ix ix_list (pv 0) (pv 1) (fun _ _ => rfl)) pe_int (fun _ _ => rfl)) pe_str (nomark _))
    (pss_one (ps_ret (pe_tup (pa_cons (pe_tup pa_nil) (pa_cons (pe_op op_add (pv 1) pe_int) pa_nil)))))
    pss_nil)
    (pss_cons (ps_asg (pe_call G_read_part (hr.mono (by omega)) (by rfl) T.m_read_part T.F_read_part.kp T.b_read_part .nil pass0 (pa_cons (pv 0) (pa_cons (pv 1) (pa_cons pe_str (pa_cons (pv 2) pa_nil))))) (pg_tup rfl (pgs_cons (pg_name (i := 3) sc_read_conditions.nd rfl (Or.inl rfl)) (pgs_cons (pg_name (i := 1) sc_read_conditions.nd rfl (Or.inl rfl)) pgs_nil))))
    (pss_cons (ps_set (i := 4) sc_read_conditions.nd rfl (Or.inl rfl) (pe_lst (pa_cons (pv 3) pa_nil)))
    (pss_cons (ps_while PassesOwn.never (pt_cmpR op_eq (pe_ix ix_tup (pe_ix ix_list (pv 0) (pv 1) (fun _ _ => rfl)) pe_int (fun _ _ => rfl)) pe_str (nomark _))
    (pss_cons (ps_asg (pe_call G_read_part (hr.mono (by omega)) (by rfl) T.m_read_part T.F_read_part.kp T.b_read_part .nil pass0 (pa_cons (pv 0) (pa_cons (pe_op op_add (pv 1) pe_int) (pa_cons pe_str (pa_cons (pv 2) pa_nil))))) (pg_tup rfl (pgs_cons (pg_name (i := 5) sc_read_conditions.nd rfl (Or.inl rfl)) (pgs_cons (pg_name (i := 1) sc_read_conditions.nd rfl (Or.inl rfl)) pgs_nil))))
    (pss_one (ps_expr (pe_bm PySem.F.plainAttrs_list PySem.F.slot_list_append PySem.F.type_list_append mt_append (pv 4) (pa_cons (pv 5) pa_nil))))))
    (pss_one (ps_ret (pe_tup (pa_cons (pe_callTy call_tuple_of (by rfl) T.z_tuple (by decide +kernel) (pa_cons (pv 4) pa_nil)) (pa_cons (pe_call G_pass_token (hr.mono (by omega)) (by rfl) T.m_pass_token T.F_pass_token.kp T.b_pass_token .nil pass0 (pa_cons (pv 0) (pa_cons (pv 1) (pa_cons pe_str pa_nil)))) pa_nil)))))))))), ?_⟩
  cases l with
  | nil =>
    refine ⟨_, rfl, _, rfl, q, n, "(", ts, (")" : Str) :: r, rfl, ht, hw, ?_⟩
    have hw1 : (wds ts).drop (n + 1) = (")" : Str) :: r := (drop_cons hw).2.1
    obtain ⟨xs1, a, c, eq, hat, ha⟩ := ht.get hw1
    refine ⟨_, rfl, _, rfl, q, _, _, _, rfl, rfl, sqd eq, hat, a, _, 0, _, rfl, rfl, sqt ha, atI0, rfl, _, rfl, ?_⟩
    refine ifT (decide_eq_true rfl) ?_
    refine ⟨(Nat.le_of_ble_eq_true rfl), fun t ht' => ⟨_, rfl, _, _, rfl, rfl, (Nat.le_of_ble_eq_true rfl), fun p hp => ?_⟩⟩
    have s1 := same_new ht' (.tup [])
    exact g p t [] _ (s1.trans (same_new hp _)) (by rw [upd_same] <;> rfl) (same_new hp _ _ _ upd_same) kids0
  | cons i l =>
    obtain ⟨hi, hd1, hd2⟩ := hall i List.mem_cons_self
    have hw0 : (wds ts).drop n = ("(" : Str) :: (i.tk ++ (tlP (l.map .ex) ++ r)) := by
      rw [hw]
      show ("(" : Str) :: ((i.tk ++ tlP (l.map .ex)) ++ r) = _
      rw [List.append_assoc]
    have hlen : (opP ((i :: l).map .ex)).length = 1 + i.tk.length + (tlP (l.map .ex)).length := by
      show ((i.tk ++ tlP (l.map .ex)).length + 1) = _
      rw [List.length_append]; omega
    refine ⟨_, rfl, _, rfl, q, n, "(", ts, _, rfl, ht, hw0, ?_⟩
    have hw1 : (wds ts).drop (n + 1) = i.tk ++ (tlP (l.map .ex) ++ r) := (drop_cons hw0).2.1
    obtain ⟨r1, etk⟩ := cond_word hi
    have hw2 : (wds ts).drop (n + 1) = i.word :: (r1 ++ (tlP (l.map .ex) ++ r)) := by rw [hw1, etk] <;> rfl
    obtain ⟨xs1, a, c, eq, hat, ha⟩ := ht.get hw2
    refine ⟨_, rfl, _, rfl, q, _, _, _, rfl, rfl, sqd eq, hat, a, _, 0, _, rfl, rfl, sqt ha, atI0, rfl, _, rfl, ?_⟩
    refine ifF (by rw [strE]; exact decide_eq_false (wd_par (word_wd hi).1)) ?_
    refine ⟨_, rfl, _, rfl, _, rfl, q, n + 1, dp, "condition", ts, _, xs, B, .ex i, rfl, ht, hw1, .te hi, hR, hd1, hd2, fun b v H1 s1 eb hv => ?_⟩
    refine ⟨b, _, rfl, sqt eb, rfl, _, _, rfl, _, _, rfl, rfl, ?_⟩
    refine ⟨_, rfl, (Nat.le_of_ble_eq_true rfl), fun D hD => ?_⟩
    have hHD : H D = none := s1.free hD
    refine ⟨fun mm σ H' => ∃ (j nj : Nat) (vs : List V) (y : Option V), σ = [some (.ref q), some (.int (nj : Int)), some (.int (dp : Int)), some v, some (.ref D), y] ∧ Same H H' ∧ H' D = some (.lst vs) ∧ Kids H' ((i :: l).take (j + 1)) vs ∧
      (wds ts).drop nj = tlP ((l.drop j).map .ex) ++ r ∧ nj + (tlP ((l.drop j).map .ex)).length = n + (opP ((i :: l).map .ex)).length ∧ mm = l.length - j ∧ j ≤ l.length,
      ⟨_, 0, n + 1 + i.tk.length, [v], none, rfl, s1.trans (same_new hD _), upd_same, ?_, drop_len hw1, ?_, rfl, Nat.zero_le _⟩, ?_⟩
    · exact kids1 (ItemIn.mono (Tp.same (same_new hD _)) hv)
    · rw [hlen, List.drop_zero]; omega
    rintro mm σ H' ⟨j, nj, vs, y, rfl, s2, e2, hin, hwj, hlj, rfl, hj⟩
    have htj := ht.same s2
    cases hd : l.drop j with
    | nil =>
      rw [hd] at hwj hlj
      have hw3 : (wds ts).drop nj = (")" : Str) :: r := hwj
      obtain ⟨xs2, a2, c2, eq2, hat2, ha2⟩ := htj.get hw3
      refine ⟨_, rfl, _, rfl, q, _, _, _, rfl, rfl, sqd eq2, hat2, a2, _, 0, _, rfl, rfl, sqt ha2, atI0, rfl, _, rfl, ?_⟩
      refine ifF (by decide +kernel) ?_
      have hjl : j = l.length := by
        have := congrArg List.length hd
        rw [List.length_drop, List.length_nil] at this
        omega
      rw [List.take_of_length_le (by rw [List.length_cons]; omega)] at hin
      refine ⟨_, rfl, D, _, rfl, .inl ⟨sqd e2, fun t ht' => ?_⟩⟩
      have s3 := s2.trans (same_new ht' (.tup vs))
      refine ⟨_, rfl, _, rfl, q, nj, ")", ts, r, rfl, ht.same s3, hwj, (Nat.le_of_ble_eq_true rfl), fun p hp => ?_⟩
      have s4 := fun o => same_new hp o
      refine g p t vs _ (s3.trans (s4 _)) ?_ (s4 _ _ _ upd_same) (hin.mono (Tp.same ((same_new ht' _).trans (s4 _))))
      rw [upd_same]
      have : nj + 1 = n + (opP ((i :: l).map .ex)).length := hlj
      rw [this]
    | cons u l2 =>
      rw [hd] at hwj hlj
      have hu : u ∈ l := List.mem_of_mem_drop (i := j) (by rw [hd]; exact List.mem_cons_self)
      obtain ⟨hui, ud1, ud2⟩ := hall u (List.mem_cons_of_mem _ hu)
      obtain ⟨gj, gd, gl⟩ := drop_cons hd
      have hw3 : (wds ts).drop nj = ("," : Str) :: (u.tk ++ (tlP (l2.map .ex) ++ r)) := by
        rw [hwj]
        show ("," : Str) :: ((u.tk ++ tlP (l2.map .ex)) ++ r) = _
        rw [List.append_assoc]
      have hw4 : (wds ts).drop (nj + 1) = u.tk ++ (tlP (l2.map .ex) ++ r) := (drop_cons hw3).2.1
      have hl4 : (tlP ((u :: l2).map .ex)).length = 1 + u.tk.length + (tlP (l2.map .ex)).length := by
        show ((u.tk ++ tlP (l2.map .ex)).length + 1) = _
        rw [List.length_append]; omega
      obtain ⟨xs2, a2, c2, eq2, hat2, ha2⟩ := htj.get hw3
      refine ⟨_, rfl, _, rfl, q, _, _, _, rfl, rfl, sqd eq2, hat2, a2, _, 0, _, rfl, rfl, sqt ha2, atI0, rfl, _, rfl, ?_⟩
      refine ifT (decide_eq_true rfl) ?_
      refine ⟨fun σ' H'' => ∃ m', m' < l.length - j ∧ ∃ (j nj : Nat) (vs : List V) (y : Option V), σ' = [some (.ref q), some (.int (nj : Int)), some (.int (dp : Int)), some v, some (.ref D), y] ∧ Same H H'' ∧ H'' D = some (.lst vs) ∧ Kids H'' ((i :: l).take (j + 1)) vs ∧
        (wds ts).drop nj = tlP ((l.drop j).map .ex) ++ r ∧ nj + (tlP ((l.drop j).map .ex)).length = n + (opP ((i :: l).map .ex)).length ∧ m' = l.length - j ∧ j ≤ l.length, fun _ _ h => h, ?_⟩
      refine ⟨_, rfl, _, rfl, _, _, rfl, rfl, _, rfl, q, nj + 1, dp, "condition", ts, _, xs, B, .ex u, rfl, htj, hw4, .te hui, hR, ud1, ud2, fun b2 v2 H2 s3 eb2 hv2 => ?_⟩
      refine ⟨b2, _, rfl, sqt eb2, rfl, _, _, rfl, _, _, rfl, rfl, ?_⟩
      have e3 := s3 _ _ e2
      refine ⟨_, rfl, .inl ⟨rfl, _, sqd e3⟩, _, rfl, D, _, _, rfl, rfl, e3, ?_, ?_⟩
      · rw [hin.1, List.length_take]
        exact big' (by omega)
      refine ⟨l.length - (j + 1), by omega, j + 1, nj + 1 + u.tk.length, vs ++ [v2], _, rfl, same_put (s2.trans s3) hHD, upd_same, ?_, ?_, ?_, rfl, gl⟩
      · rw [List.take_add_one, show (i :: l)[j + 1]? = some u from gj]
        exact ((hin.mono (Tp.same s3)).snoc hv2).mono (tp_put e3)
      · rw [gd]; exact drop_len hw4
      · rw [gd]
        omega
/-! ### the leaves' tokens -/
theorem leaf_tk {xs : List Str} {B : Nat} {i : It} (h : Okx xs B false i) (h0 : i.cls = 0) : (∃ n : Int, i = .num n ∧ n.natAbs ≤ B) ∨ ∃ x, i = .name x ∧ x ∈ xs := by
  cases h with
  | num h => exact .inl ⟨_, rfl, h⟩
  | name h => exact .inr ⟨_, rfl, h⟩
  | abs _ => cases h0
  | dm _ _ _ _ => cases h0
  | bin _ _ _ => cases h0
  | tri _ _ _ => cases h0
theorem word_res {xs : List Str} {B : Nat} {b : Bool} {i : It} (h : Okx xs B b i) (h0 : b = true ∨ i.cls ≠ 0) : i.word ∈ res := by
  have g : ∀ z ∈ (["true", "false", "abs", "not", "div", "mod", "add", "sub", "mul", "min", "max", "less", "equal", "if", "all", "any"] : List Str), z ∈ res := by decide +kernel
  refine g _ ?_
  simp only [List.mem_cons, List.not_mem_nil, or_false]
  cases h with
  | num _ => exact h0.elim (fun h => by cases h) (fun h => absurd rfl h)
  | name _ => exact h0.elim (fun h => by cases h) (fun h => absurd rfl h)
  | lit => rename_i b; cases b <;> simp [It.word, bstr]
  | abs _ => simp [It.word]
  | not _ => simp [It.word]
  | dm hw _ _ _ =>
    simp only [List.mem_cons, List.not_mem_nil, or_false] at hw
    rcases hw with rfl | rfl <;> simp [It.word]
  | bin hw _ _ =>
    simp only [List.mem_cons, List.not_mem_nil, or_false] at hw
    rcases hw with rfl | rfl | rfl | rfl | rfl <;> simp [It.word]
  | cmp hw _ _ =>
    simp only [List.mem_cons, List.not_mem_nil, or_false] at hw
    rcases hw with rfl | rfl <;> simp [It.word]
  | tri _ _ _ => simp [It.word]
  | grp hw _ _ =>
    simp only [List.mem_cons, List.not_mem_nil, or_false] at hw
    rcases hw with rfl | rfl <;> simp [It.word]
theorem pts_len {xs : List Str} {B : Nat} {b : Bool} {i : It} (h : Okx xs B b i) : i.pts.length ≤ 1000 := by
  cases h with
  | grp _ hl _ => simp only [It.pts, List.length_map]; omega
  | _ => exact Nat.le_of_ble_eq_true rfl
theorem kdct {w : World} {K : PySem.W.Frag} {d : Addr} {es : Array DictEntry} {n : Nat} {z : Str} {t : Addr} (D : KDict K w d es n) (h : PySem.W.nsIn K d z = some (some (.ref t))) : KDct K w d z (.ref t) := ⟨es, n, .ref t, D.at_, D.lit, h, rfl⟩
theorem ok_read_expression (T : Txt K mg) (D : Dic K w mg) {m k : Nat} (hk : 2 ≤ k) (G_read_parts : FnOk P w K mg base CX0 k T.a_read_parts T.d_read_parts P_read_parts (spRParts K m)) :
    FnOk P w K mg base CX0 (k + 1) T.a_read_expression T.d_read_expression P_read_expression (spEC false (m + 1)) := by
  have Gis_integer := ok_is_integer (P := P) (w := w) (base := base) T
  have Gis_name := ok_is_name (P := P) (w := w) (base := base) T
  refine T.F_read_expression.ok sc_read_expression (fun vs H Q E h => ?_) (fun cdv A outer s H vs Q E hr h => ?_)
  · obtain ⟨q, n, dp, ts, r, xs, B, i, rfl, _⟩ := h
    rfl
  obtain ⟨q, n, dp, ts, r, xs, B, i, rfl, ht, hw, ho, hR, hd1, hd2, g⟩ := h
  refine ⟨_, (pss_cons (ps_asg (pe_ix ix_list (pv 0) (pv 1) (fun _ _ => rfl)) (pg_tup rfl (pgs_cons (pg_name (i := 3) sc_read_expression.nd rfl (Or.inl rfl)) (pgs_cons (pg_name (i := 4) sc_read_expression.nd rfl (Or.inl rfl)) pgs_nil))))
    (pss_cons (ps_if (pt_val (pe_call Gis_integer (hr.mono (by omega)) (by rfl) T.mis_integer T.Fis_integer.kp T.bis_integer .nil pass0 (pa_cons (pv 3) pa_nil)))
    (pss_one (ps_ret (pe_tup (pa_cons (pe_tup (pa_cons pe_str (pa_cons (pe_callTy call_int_str (by rfl) T.z_int (by decide +kernel) (pa_cons (pv 3) pa_nil)) pa_nil))) (pa_cons (pe_op op_add (pv 1) pe_int) pa_nil)))))
    pss_nil)
    (pss_cons (ps_if (pt_val (pe_call Gis_name (hr.mono (by omega)) (by rfl) T.mis_name T.Fis_name.kp T.bis_name .nil pass0 (pa_cons (pv 3) pa_nil)))
    (pss_one (ps_ret (pe_tup (pa_cons (pe_tup (pa_cons pe_str (pa_cons (pv 3) pa_nil))) (pa_cons (pe_op op_add (pv 1) pe_int) pa_nil)))))
    pss_nil)
    (pss_cons (ps_if (pt_cmpR (op_notIn_kd D.D_EXPRESSION_PARTS) (pv 3) (pe_glob (v := .ref D.c_EXPRESSION_PARTS) rfl D.g_EXPRESSION_PARTS rfl) (by rfl))
    (pss_one ps_never)
    pss_nil)
    (pss_cons (ps_asg (pe_call G_read_parts (hr.mono (by omega)) (by rfl) T.m_read_parts T.F_read_parts.kp T.b_read_parts .nil pass0 (pa_cons (pv 0) (pa_cons (pe_op op_add (pv 1) pe_int) (pa_cons (pe_ix ix_kdict (pe_glob (v := .ref D.c_EXPRESSION_PARTS) rfl D.g_EXPRESSION_PARTS rfl) (pv 3) (fun _ _ => rfl)) (pa_cons (pe_op op_add (pv 2) pe_int) pa_nil))))) (pg_tup rfl (pgs_cons (pg_name (i := 5) sc_read_expression.nd rfl (Or.inl rfl)) (pgs_cons (pg_name (i := 6) sc_read_expression.nd rfl (Or.inl rfl)) pgs_nil))))
    (pss_one (ps_ret (pe_tup (pa_cons (pe_op op_catA (pe_tup (pa_cons (pv 3) pa_nil)) (pv 5)) (pa_cons (pv 6) pa_nil)))))))))), ?_⟩
  have hbd := hR.bd
  by_cases h0 : i.cls = 0
  · rcases leaf_tk ho h0 with ⟨x, rfl, hx⟩ | ⟨x, rfl, hx⟩
    · rw [It.tk] at hw g
      have hx2 : x.natAbs < 10 ^ 60 := by omega
      obtain ⟨xs1, a, c, eq, hat, ha⟩ := ht.get hw
      obtain ⟨hi, hl⟩ := int_read hx2
      refine ⟨_, rfl, _, rfl, q, _, _, _, rfl, rfl, sqd eq, hat, a, _, rfl, sqt ha, rfl, _, _, rfl, _, _, rfl, rfl, ?_⟩
      refine ⟨_, rfl, _, rfl, Nat.le_trans hl (by decide), _, rfl, ?_⟩
      refine ifT (isI_itxt hx2) ?_
      refine ⟨_, rfl, _, x, rfl, hi, Nat.le_trans hl (by decide), (Nat.le_of_ble_eq_true rfl), fun p hp => ⟨_, rfl, _, _, rfl, rfl, (Nat.le_of_ble_eq_true rfl), fun p2 hp2 => ?_⟩⟩
      exact g p2 _ _ ((same_new hp _).trans (same_new hp2 _)) (by rw [upd_same] <;> rfl) (.num (same_new hp2 _ _ _ upd_same))
    · rw [It.tk] at hw g
      have hnm := hR.nm x hx
      have hxl := tlen xs hR.nm hx
      have hx0 : tl x ≠ [] := fun e => by
        have h1 := hnm.len.1
        rw [← tl_len, e] at h1
        exact absurd h1 (by decide)
      obtain ⟨xs1, a, c, eq, hat, ha⟩ := ht.get hw
      refine ⟨_, rfl, _, rfl, q, _, _, _, rfl, rfl, sqd eq, hat, a, _, rfl, sqt ha, rfl, _, _, rfl, _, _, rfl, rfl, ?_⟩
      refine ⟨_, rfl, _, rfl, hxl, _, rfl, ?_⟩
      refine ifF (isI_wd hnm.wd hx0) ?_
      refine ⟨_, rfl, _, rfl, hxl, _, rfl, ?_⟩
      refine ifT (isN_nam hnm) ?_
      refine ⟨_, rfl, (Nat.le_of_ble_eq_true rfl), fun p hp => ⟨_, rfl, _, _, rfl, rfl, (Nat.le_of_ble_eq_true rfl), fun p2 hp2 => ?_⟩⟩
      exact g p2 _ _ ((same_new hp _).trans (same_new hp2 _)) (by rw [upd_same] <;> rfl) (.name (same_new hp2 _ _ _ upd_same))
  · obtain ⟨ks, hrow, hM, h1, hpn⟩ := row_ex ho h0
    obtain ⟨t, hns, hkt⟩ := D.q_EXPRESSION_PARTS _ _ hrow
    have hwl := (word_wd ho).2
    obtain ⟨hw0, hwd⟩ := word_tk ho
    have etk := tk_pts h0
    have hw1 : (wds ts).drop n = i.word :: (opP i.pts ++ r) := by rw [hw, etk] <;> rfl
    have hw2 : (wds ts).drop (n + 1) = opP i.pts ++ r := (drop_cons hw1).2.1
    obtain ⟨xs1, a, c, eq, hat, ha⟩ := ht.get hw1
    refine ⟨_, rfl, _, rfl, q, _, _, _, rfl, rfl, sqd eq, hat, a, _, rfl, sqt ha, rfl, _, _, rfl, _, _, rfl, rfl, ?_⟩
    refine ⟨_, rfl, _, rfl, by omega, _, rfl, ?_⟩
    refine ifF (isI_wd hwd hw0) ?_
    refine ⟨_, rfl, _, rfl, by omega, _, rfl, ?_⟩
    refine ifF (isN_res (word_res ho (.inr h0))) ?_
    refine ⟨_, rfl, _, _, rfl, rfl, hns, _, rfl, ?_⟩
    refine ifF rfl ?_
    refine ⟨_, rfl, _, rfl, _, _, rfl, rfl, _, rfl, _, _, _, rfl, rfl, kdct D.D_EXPRESSION_PARTS hns, _, rfl, _, _, rfl, rfl, ?_⟩
    refine ⟨q, t, n + 1, dp + 1, ts, r, xs, ks, B, i.pts, rfl, ht, hw2, hkt, hM, hpn, pts_len ho, hR, fun p hp => ?_, fun b tt vs H1 s1 eb et hin => ?_⟩
    · have := pts_dep hp
      omega
    refine ⟨b, _, rfl, sqt eb, rfl, _, _, rfl, _, _, rfl, rfl, ?_⟩
    have hvn : vs ≠ [] := fun e => by
      have := hin.1
      rw [e] at this
      exact hpn (List.length_eq_zero_iff.mp this.symm)
    have hvl := pts_len ho
    rw [← hin.1] at hvl
    refine ⟨_, rfl, (Nat.le_of_ble_eq_true rfl), fun p1 hp1 => ⟨_, rfl, p1, tt, _, _, rfl, rfl, sqt upd_same, sqt (same_new hp1 _ _ _ et), ?_, (fun e => by cases e), (fun _ e => absurd e hvn), fun _ _ p2 hp2 => ⟨_, rfl, (Nat.le_of_ble_eq_true rfl), fun p3 hp3 => ?_⟩⟩⟩
    · rw [List.length_singleton]
      exact big (by omega)
    have s2 := (same_new hp1 (.tup [.str i.word])).trans ((same_new hp2 (.tup ([.str i.word] ++ vs))).trans (same_new hp3 (.tup [.ref p2, .int ((n + 1 + (opP i.pts).length : Nat) : Int)])))
    refine g p3 (.ref p2) _ (s1.trans s2) ?_ (item_pts h0 h1 (same_new hp3 _ _ _ upd_same) (hin.mono (Tp.same s2)))
    rw [upd_same, etk, List.length_cons, Nat.add_assoc, Nat.add_comm 1]
theorem ok_read_condition (T : Txt K mg) (D : Dic K w mg) {m k : Nat} (G_read_parts : FnOk P w K mg base CX0 k T.a_read_parts T.d_read_parts P_read_parts (spRParts K m)) (G_read_conditions : FnOk P w K mg base CX0 k T.a_read_conditions T.d_read_conditions P_read_conditions (spConds m)) :
    FnOk P w K mg base CX0 (k + 1) T.a_read_condition T.d_read_condition P_read_condition (spEC true (m + 1)) := by
  refine T.F_read_condition.ok sc_read_condition (fun vs H Q E h => ?_) (fun cdv A outer s H vs Q E hr h => ?_)
  · obtain ⟨q, n, dp, ts, r, xs, B, i, rfl, _⟩ := h
    rfl
  obtain ⟨q, n, dp, ts, r, xs, B, i, rfl, ht, hw, ho, hR, hd1, hd2, g⟩ := h
  refine ⟨_, (pss_cons (ps_asg (pe_ix ix_list (pv 0) (pv 1) (fun _ _ => rfl)) (pg_tup rfl (pgs_cons (pg_name (i := 3) sc_read_condition.nd rfl (Or.inl rfl)) (pgs_cons (pg_name (i := 4) sc_read_condition.nd rfl (Or.inl rfl)) pgs_nil))))
    (pss_cons (ps_if (pt_cmpR op_in_seq (pv 3) (pe_tup (pa_cons pe_str (pa_cons pe_str pa_nil))) (by rfl))
    (pss_one (ps_ret (pe_tup (pa_cons (pe_tup (pa_cons (pv 3) pa_nil)) (pa_cons (pe_op op_add (pv 1) pe_int) pa_nil)))))
    pss_nil)
    (pss_cons (ps_if (pt_cmpR op_in_seq (pv 3) (pe_tup (pa_cons pe_str (pa_cons pe_str pa_nil))) (by rfl))
    (pss_cons (ps_asg (pe_call G_read_conditions (hr.mono (by omega)) (by rfl) T.m_read_conditions T.F_read_conditions.kp T.b_read_conditions .nil pass0 (pa_cons (pv 0) (pa_cons (pe_op op_add (pv 1) pe_int) (pa_cons (pe_op op_add (pv 2) pe_int) pa_nil)))) (pg_tup rfl (pgs_cons (pg_name (i := 5) sc_read_condition.nd rfl (Or.inl rfl)) (pgs_cons (pg_name (i := 6) sc_read_condition.nd rfl (Or.inl rfl)) pgs_nil))))
    (pss_one (ps_ret (pe_tup (pa_cons (pe_tup (pa_cons (pv 3) (pa_cons (pv 5) pa_nil))) (pa_cons (pv 6) pa_nil))))))
    pss_nil)
    (pss_cons (ps_if (pt_cmpR (op_notIn_kd D.D_CONDITION_PARTS) (pv 3) (pe_glob (v := .ref D.c_CONDITION_PARTS) rfl D.g_CONDITION_PARTS rfl) (by rfl))
    (pss_one ps_never)
    pss_nil)
    (pss_cons (ps_asg (pe_call G_read_parts (hr.mono (by omega)) (by rfl) T.m_read_parts T.F_read_parts.kp T.b_read_parts .nil pass0 (pa_cons (pv 0) (pa_cons (pe_op op_add (pv 1) pe_int) (pa_cons (pe_ix ix_kdict (pe_glob (v := .ref D.c_CONDITION_PARTS) rfl D.g_CONDITION_PARTS rfl) (pv 3) (fun _ _ => rfl)) (pa_cons (pe_op op_add (pv 2) pe_int) pa_nil))))) (pg_tup rfl (pgs_cons (pg_name (i := 7) sc_read_condition.nd rfl (Or.inl rfl)) (pgs_cons (pg_name (i := 6) sc_read_condition.nd rfl (Or.inl rfl)) pgs_nil))))
    (pss_one (ps_ret (pe_tup (pa_cons (pe_op op_catA (pe_tup (pa_cons (pv 3) pa_nil)) (pv 7)) (pa_cons (pv 6) pa_nil)))))))))), ?_⟩
  obtain ⟨-, -, ct_, c1, -⟩ := word_cls ho
  obtain ⟨r1, er1⟩ := cond_word ho
  have hw1 : (wds ts).drop n = i.word :: (r1 ++ r) := by rw [hw, er1] <;> rfl
  obtain ⟨xs1, a, c, eq, hat, ha⟩ := ht.get hw1
  refine ⟨_, rfl, _, rfl, q, _, _, _, rfl, rfl, sqd eq, hat, a, _, rfl, sqt ha, rfl, _, _, rfl, _, _, rfl, rfl, ?_⟩
  refine ⟨_, rfl, (Nat.le_of_ble_eq_true rfl), fun p1 hp1 => ?_⟩
  have s1 := fun o => same_new hp1 o
  refine ⟨p1, _, rfl, .inr (sqt upd_same), rfl, by decide +kernel, _, rfl, ?_⟩
  by_cases h0 : i.cls = 0
  · refine ifT (inT (ys := ["true", "false"]) rfl (by rw [ct_, h0] <;> rfl)) ?_
    cases ho with
    | lit =>
      rename_i b
      rw [It.tk] at g
      refine ⟨_, rfl, (Nat.le_of_ble_eq_true rfl), fun p hp => ⟨_, rfl, _, _, rfl, rfl, (Nat.le_of_ble_eq_true rfl), fun p2 hp2 => ?_⟩⟩
      exact g p2 _ _ ((s1 _).trans ((same_new hp _).trans (same_new hp2 _))) (by rw [upd_same] <;> rfl) (.lit (same_new hp2 _ _ _ upd_same))
    | not _ => cases h0
    | cmp _ _ _ => cases h0
    | grp _ _ _ => cases h0
  refine ifF (inT (ys := ["true", "false"]) rfl (by rw [ct_]; simp [h0])) ?_
  refine ⟨_, rfl, (Nat.le_of_ble_eq_true rfl), fun p2 hp2 => ?_⟩
  have s2 := fun o => (s1 _).trans (same_new hp2 o)
  refine ⟨p2, _, rfl, .inr (sqt upd_same), rfl, by decide +kernel, _, rfl, ?_⟩
  have etk := tk_pts h0
  have hw3 : (wds ts).drop n = i.word :: (opP i.pts ++ r) := by rw [hw, etk] <;> rfl
  have hw2 : (wds ts).drop (n + 1) = opP i.pts ++ r := (drop_cons hw3).2.1
  by_cases h1 : i.cls = 1
  · refine ifT (inT (ys := ["all", "any"]) rfl (by rw [c1, h1] <;> rfl)) ?_
    cases ho with
    | lit => cases h1
    | not _ => cases h1
    | cmp _ _ _ => cases h1
    | grp hwg hl hall =>
      rename_i wg l
      refine ⟨_, rfl, _, rfl, _, _, rfl, rfl, _, rfl, _, _, rfl, rfl, ?_⟩
      refine ⟨q, n + 1, dp + 1, ts, r, xs, B, l, rfl, ht.same (s2 _), hw2, by omega, hR, fun j hj => ?_, fun b tt vs H1 s3 eb et hin => ?_⟩
      · have := pts_dep (i := .grp wg l) (p := .ex j) (List.mem_map.mpr ⟨j, hj, rfl⟩)
        have h2 : j.dep + 1 ≤ (It.grp wg l).dep := this
        exact ⟨hall j hj, by omega, by omega⟩
      refine ⟨b, _, rfl, sqt eb, rfl, _, _, rfl, _, _, rfl, rfl, ?_⟩
      refine ⟨_, rfl, _, rfl, (Nat.le_of_ble_eq_true rfl), fun p3 hp3 => ⟨_, rfl, (Nat.le_of_ble_eq_true rfl), fun p4 hp4 => ?_⟩⟩
      have s5 := fun o' => (same_new hp3 _).trans (same_new hp4 o')
      refine g p4 (.ref p3) _ ((s2 _).trans (s3.trans (s5 _))) ?_ ((hin.mono (Tp.same (s5 _))).ok (same_new hp4 _ _ _ upd_same) (s5 _ _ _ et))
      rw [upd_same, etk, List.length_cons, Nat.add_assoc, Nat.add_comm 1]
      rfl
  refine ifF (inT (ys := ["all", "any"]) rfl (by rw [c1]; simpa using h1)) ?_
  obtain ⟨ks, hrow, hM, hpn⟩ := row_te ho h0 h1
  obtain ⟨t, hns, hkt⟩ := D.q_CONDITION_PARTS _ _ hrow
  refine ⟨_, rfl, _, _, rfl, rfl, hns, _, rfl, ?_⟩
  refine ifF rfl ?_
  refine ⟨_, rfl, _, rfl, _, _, rfl, rfl, _, rfl, _, _, _, rfl, rfl, kdct D.D_CONDITION_PARTS hns, _, rfl, _, _, rfl, rfl, ?_⟩
  refine ⟨q, t, n + 1, dp + 1, ts, r, xs, ks, B, i.pts, rfl, ht.same (s2 _), hw2, hkt, hM, hpn, pts_len ho, hR, fun p hp => ?_, fun b tt vs H1 s3 eb et hin => ?_⟩
  · have := pts_dep hp
    omega
  refine ⟨b, _, rfl, sqt eb, rfl, _, _, rfl, _, _, rfl, rfl, ?_⟩
  have hvn : vs ≠ [] := fun e => by
    have := hin.1
    rw [e] at this
    exact hpn (List.length_eq_zero_iff.mp this.symm)
  have hvl := pts_len ho
  rw [← hin.1] at hvl
  refine ⟨_, rfl, (Nat.le_of_ble_eq_true rfl), fun p3 hp3 => ⟨_, rfl, p3, tt, _, _, rfl, rfl, sqt upd_same, sqt (same_new hp3 _ _ _ et), ?_, (fun e => by cases e), (fun _ e => absurd e hvn), fun _ _ p4 hp4 => ⟨_, rfl, (Nat.le_of_ble_eq_true rfl), fun p5 hp5 => ?_⟩⟩⟩
  · rw [List.length_singleton]
    exact big (by omega)
  have s4 := (same_new hp3 (.tup [.str i.word])).trans ((same_new hp4 (.tup ([.str i.word] ++ vs))).trans (same_new hp5 (.tup [.ref p4, .int ((n + 1 + (opP i.pts).length : Nat) : Int)])))
  refine g p5 (.ref p4) _ ((s2 _).trans (s3.trans s4)) ?_ (item_pts h0 h1 (same_new hp5 _ _ _ upd_same) (hin.mono (Tp.same s4)))
  rw [upd_same, etk, List.length_cons, Nat.add_assoc, Nat.add_comm 1]
/-! ### _read_part -/
theorem rd_part_of (T : Txt K mg) {m k : Nat} (hk : 3 ≤ k) (G_read_expression : FnOk P w K mg base CX0 k T.a_read_expression T.d_read_expression P_read_expression (spEC false m)) (G_read_condition : FnOk P w K mg base CX0 k T.a_read_condition T.d_read_condition P_read_condition (spEC true m)) :
    FnOk P w K mg base CX0 (k + 1) T.a_read_part T.d_read_part P_read_part (spPart m) := by
  have G_read_divisor := ok_read_divisor (P := P) (w := w) (base := base) T
  refine T.F_read_part.ok sc_read_part (fun vs H Q E h => ?_) (fun cdv A outer s H vs Q E hr h => ?_)
  · obtain ⟨q, n, dp, kd, ts, r, xs, B, p, rfl, _⟩ := h
    rfl
  obtain ⟨q, n, dp, kd, ts, r, xs, B, p, rfl, ht, hw, hp, hR, hd1, hd2, g⟩ := h
  refine ⟨_, (pss_cons (ps_if (pt_cmpR op_eq (pv 2) pe_str (nomark _))
    (pss_one (ps_ret (pe_call G_read_divisor (hr.mono (by omega)) (by rfl) T.m_read_divisor T.F_read_divisor.kp T.b_read_divisor .nil pass0 (pa_cons (pv 0) (pa_cons (pv 1) pa_nil)))))
    pss_nil)
    (pss_cons (ps_if (pt_cmpR op_gt (pv 3) (pe_glob rfl T.g_MOST_DEPTH T.r_MOST_DEPTH) (nomark _))
    (pss_one ps_never)
    pss_nil)
    (pss_cons (ps_if (pt_cmpR op_eq (pv 2) pe_str (nomark _))
    (pss_one (ps_ret (pe_call G_read_expression (hr.mono (by omega)) (by rfl) T.m_read_expression T.F_read_expression.kp T.b_read_expression .nil pass0 (pa_cons (pv 0) (pa_cons (pv 1) (pa_cons (pv 3) pa_nil))))))
    pss_nil)
    (pss_one (ps_ret (pe_call G_read_condition (hr.mono (by omega)) (by rfl) T.m_read_condition T.F_read_condition.kp T.b_read_condition .nil pass0 (pa_cons (pv 0) (pa_cons (pv 1) (pa_cons (pv 3) pa_nil))))))))), ?_⟩
  have hbd := hR.bd
  obtain ⟨um, gm, rm⟩ : ∃ u, mg "MOST_DEPTH" = some u ∧ L2.RelV (.int 12) u := ⟨_, T.g_MOST_DEPTH, T.r_MOST_DEPTH⟩
  cases hp with
  | dv h1 h2 =>
    rename_i z
    refine ⟨_, rfl, rfl, _, rfl, ?_⟩
    refine ifT (by decide +kernel) ?_
    refine ⟨_, rfl, _, rfl, q, n, ts, r, z, rfl, ht, hw, h1, by omega, fun a H' s1 ea => ?_⟩
    exact g a _ H' s1 ea rfl
  | ex ho =>
    rename_i i
    have hdp : i.dep + dp ≤ 13 := hd2
    have hd0 := dep_pos i
    refine ⟨_, rfl, rfl, _, rfl, ?_⟩
    refine ifF (by decide +kernel) ?_
    refine ⟨_, rfl, _, _, rfl, rfl, _, rfl, ?_⟩
    refine ifF (decide_eq_false (by omega)) ?_
    refine ⟨_, rfl, rfl, _, rfl, ?_⟩
    refine ifT (by decide +kernel) ?_
    exact ⟨_, rfl, _, rfl, _, rfl, q, n, dp, ts, r, xs, B, i, rfl, ht, hw, ho, hR, hd1, hd2, fun a v H' s1 ea hv => g a v H' s1 ea hv⟩
  | te ho =>
    rename_i i
    have hdp : i.dep + dp ≤ 13 := hd2
    have hd0 := dep_pos i
    refine ⟨_, rfl, rfl, _, rfl, ?_⟩
    refine ifF (by decide +kernel) ?_
    refine ⟨_, rfl, _, _, rfl, rfl, _, rfl, ?_⟩
    refine ifF (decide_eq_false (by omega)) ?_
    refine ⟨_, rfl, rfl, _, rfl, ?_⟩
    refine ifF (by decide +kernel) ?_
    exact ⟨_, rfl, _, rfl, _, rfl, q, n, dp, ts, r, xs, B, i, rfl, ht, hw, ho, hR, hd1, hd2, fun a v H' s1 ea hv => g a v H' s1 ea hv⟩
theorem no_ec {b : Bool} {fa : Addr} {fd : FuncData} {ps : List Str} : FnOk P w K mg base CX0 3 fa fd ps (spEC b 0) := by
  have no : ∀ vs H Q E, ¬ spEC b 0 vs H Q E := fun vs H Q E ⟨q, n, dp, ts, r, xs, B, i, _, _, _, _, _, h, _⟩ => by
    have := dep_pos i
    omega
  exact ⟨fun vs H Q E h => absurd h (no vs H Q E), fun A outer s H args us vs Q E _ _ _ _ h => absurd h (no vs H Q E)⟩
theorem ok_read_part (T : Txt K mg) (D : Dic K w mg) : ∀ m : Nat, FnOk P w K mg base CX0 (3 * m + 4) T.a_read_part T.d_read_part P_read_part (spPart m)
  | 0 => rd_part_of T (Nat.le_refl 3) no_ec no_ec
  | m + 1 => by
    have Gp := ok_read_part T D m
    have Gs := ok_read_parts T (by omega) Gp
    have Gc := ok_read_conditions T (by omega) Gp
    have Ge := ok_read_expression T D (by omega) Gs
    have Gt := ok_read_condition T D Gs Gc
    exact rd_part_of T (m := m + 1) (k := 3 * m + 4 + 1 + 1) (by omega) Ge Gt
/-! ### read_whole -/
def spWhole : Sp := fun vs H Q _ => ∃ (z kd : Str) (xs : List Str) (B : Nat) (i : It), vs = [.str z, .str kd] ∧ z.length ≤ 10000000 ∧ Lay i.tk (tl z) ∧ PtOk xs B kd (.ex i) ∧ Rd xs B ∧ i.dep ≤ 12 ∧ ∀ v H', Same H H' → ItemIn H' i v → Q v H'
theorem pt_ok {xs : List Str} {B : Nat} {kd : Str} {i : It} (h : PtOk xs B kd (.ex i)) : ∃ b, Okx xs B b i := by
  cases h with
  | ex h => exact ⟨_, h⟩
  | te h => exact ⟨_, h⟩
theorem ok_read_whole (T : Txt K mg) (D : Dic K w mg) : FnOk P w K mg base CX0 41 T.aread_whole T.dread_whole Pread_whole spWhole := by
  have G_pass_token := ok_pass_token (P := P) (w := w) (base := base) T
  have Gtokens_of := ok_tokens_of (P := P) (w := w) (base := base) T
  have G_read_part := ok_read_part (P := P) (base := base) T D 12
  refine T.Fread_whole.ok scread_whole (fun vs H Q E h => ?_) (fun cdv A outer s H vs Q E hr h => ?_)
  · obtain ⟨z, kd, xs, B, i, rfl, _⟩ := h
    rfl
  obtain ⟨z, kd, xs, B, i, rfl, hz, hL, hp, hR, hd, g⟩ := h
  refine ⟨_, (pss_cons (ps_set (i := 2) scread_whole.nd rfl (Or.inl rfl) (pe_call Gtokens_of (hr.mono (by omega)) (by rfl) T.mtokens_of T.Ftokens_of.kp T.btokens_of .nil pass0 (pa_cons (pv 0) pa_nil)))
    (pss_cons (ps_asg (pe_call G_read_part (hr.mono (by omega)) (by rfl) T.m_read_part T.F_read_part.kp T.b_read_part .nil pass0 (pa_cons (pv 2) (pa_cons pe_int (pa_cons (pv 1) (pa_cons pe_int pa_nil))))) (pg_tup rfl (pgs_cons (pg_name (i := 3) scread_whole.nd rfl (Or.inl rfl)) (pgs_cons (pg_name (i := 4) scread_whole.nd rfl (Or.inl rfl)) pgs_nil))))
    (pss_cons (ps_expr (pe_call G_pass_token (hr.mono (by omega)) (by rfl) T.m_pass_token T.F_pass_token.kp T.b_pass_token .nil pass0 (pa_cons (pv 2) (pa_cons (pv 4) (pa_cons pe_str pa_nil)))))
    (pss_one (ps_ret (pv 3)))))), ?_⟩
  obtain ⟨b, ho⟩ := pt_ok hp
  obtain ⟨hk, hA⟩ := tk_good hR.nm ho
  obtain ⟨tc, hT, hf⟩ := lay_toks hL hk hA 0
  rw [Nat.zero_add] at hT
  refine ⟨_, rfl, z, tc, rfl, hz, hT, fun q H1 s1 hq hti => ?_⟩
  have hws : wds (tc ++ [(("" : Str), z.length + 1)]) = i.tk ++ [("" : Str)] := by
    show List.map Prod.fst _ = _
    rw [List.map_append, hf]
    rfl
  refine ⟨_, rfl, _, rfl, q, 0, 1, kd, _, [("" : Str)], xs, B, .ex i, rfl, hti, hws, hp, hR, hd, by show i.dep + 1 ≤ 13; omega, fun a v H2 s2 ea hv => ?_⟩
  refine ⟨a, _, rfl, sqt ea, rfl, _, _, rfl, _, _, rfl, rfl, ?_⟩
  refine ⟨_, rfl, _, rfl, q, 0 + i.tk.length, "", _, [], rfl, hti.same s2, ?_, ?_⟩
  · rw [Nat.zero_add, hws, List.drop_left]
  exact ⟨_, rfl, g v H2 (s1.trans s2) hv⟩
end
end NL

namespace NL
open PySem PySem.Spec PyProof.Rows L2
/-! ### two values that are the same, part by part -/
def Alike : Nat → Hp → V → V → Prop
  | 0, _, _, _ => False
  | n + 1, H, u, v => (∃ s, u = .str s ∧ v = .str s) ∨ (∃ i, u = .int i ∧ v = .int i) ∨ ∃ a b xs ys, u = .ref a ∧ v = .ref b ∧ H a = some (.tup xs) ∧ H b = some (.tup ys) ∧ xs.length = ys.length ∧ ys.length ≤ 1000 ∧
      ∀ (k : Nat) x y, xs[k]? = some x → ys[k]? = some y → Alike n H x y
theorem Alike.up {H : Hp} : ∀ {n : Nat} {u v : V}, Alike n H u v → Alike (n + 1) H u v
  | 0, _, _, h => h.elim
  | n + 1, u, v, h => by
    rcases h with h | h | ⟨a, b, xs, ys, h1, h2, h3, h4, h5, h6, h7⟩
    · exact .inl h
    · exact .inr (.inl h)
    · exact .inr (.inr ⟨a, b, xs, ys, h1, h2, h3, h4, h5, h6, fun k x y hx hy => (h7 k x y hx hy).up⟩)
theorem Alike.s {n : Nat} {H : Hp} {s : Str} : Alike (n + 1) H (.str s) (.str s) := .inl ⟨s, rfl, rfl⟩
theorem Alike.i {n : Nat} {H : Hp} {i : Int} : Alike (n + 1) H (.int i) (.int i) := .inr (.inl ⟨i, rfl, rfl⟩)
def AllA (n : Nat) (H : Hp) (xs ys : List V) : Prop := xs.length = ys.length ∧ ∀ (k : Nat) x y, xs[k]? = some x → ys[k]? = some y → Alike n H x y
theorem AllA.nil {n : Nat} {H : Hp} : AllA n H [] [] := ⟨rfl, fun k x y h _ => by simp at h⟩
theorem AllA.cons {n : Nat} {H : Hp} {x y : V} {xs ys : List V} (h : Alike n H x y) (g : AllA n H xs ys) : AllA n H (x :: xs) (y :: ys) := ⟨by rw [List.length_cons, List.length_cons, g.1], fun k a b ha hb => by
  cases k with
  | zero => cases Option.some.inj ha; cases Option.some.inj hb; exact h
  | succ k => exact g.2 k a b (by simpa using ha) (by simpa using hb)⟩
theorem Alike.t {n : Nat} {H : Hp} {a b : Addr} {xs ys : List V} (e : H a = some (.tup xs)) (f : H b = some (.tup ys)) (h : AllA n H xs ys) (hl : ys.length ≤ 1000) : Alike (n + 1) H (.ref a) (.ref b) := .inr (.inr ⟨a, b, xs, ys, rfl, rfl, e, f, h.1, hl, h.2⟩)
theorem item_alike {H : Hp} {xs : List Str} {B : Nat} : ∀ (n : Nat) {b : Bool} {i : It} {u v : V}, i.dep ≤ n → Okx xs B b i → ItemIn H i u → ItemIn H i v → Alike (2 * n + 1) H u v
  | 0, b, i, u, v, hd, _, _, _ => by
    have := dep_pos i
    omega
  | n + 1, b, i, u, v, hd, ho, h, g => by
    have ih := fun {b : Bool} {j : It} {u v : V} (hj : j.dep ≤ n) (o : Okx xs B b j) (h : ItemIn H j u) (g : ItemIn H j v) => item_alike n hj o h g
    show Alike (2 * n + 1 + 1 + 1) H u v
    cases h with
    | num e => cases g with | num f => exact .t e f (.cons .s (.cons .i .nil)) (Nat.le_of_ble_eq_true rfl)
    | name e => cases g with | name f => exact .t e f (.cons .s (.cons .s .nil)) (Nat.le_of_ble_eq_true rfl)
    | lit e => cases g with | lit f => exact .t e f (.cons .s .nil) (Nat.le_of_ble_eq_true rfl)
    | un e h1 =>
      cases g with
      | un f g1 =>
        rw [It.dep] at hd
        refine .t e f (.cons .s (.cons ?_ .nil)) (Nat.le_of_ble_eq_true rfl)
        cases ho with
        | abs o => exact (ih (by omega) o h1 g1).up
        | not o => exact (ih (by omega) o h1 g1).up
    | dm e h1 =>
      cases g with
      | dm f g1 =>
        rw [It.dep] at hd
        cases ho with
        | dm _ o _ _ => exact .t e f (.cons .s (.cons (ih (by omega) o h1 g1).up (.cons .i .nil))) (Nat.le_of_ble_eq_true rfl)
    | bin e h1 h2 =>
      cases g with
      | bin f g1 g2 =>
        rw [It.dep] at hd
        cases ho with
        | bin _ o p => exact .t e f (.cons .s (.cons (ih (by omega) o h1 g1).up (.cons (ih (by omega) p h2 g2).up .nil))) (Nat.le_of_ble_eq_true rfl)
        | cmp _ o p => exact .t e f (.cons .s (.cons (ih (by omega) o h1 g1).up (.cons (ih (by omega) p h2 g2).up .nil))) (Nat.le_of_ble_eq_true rfl)
    | tri e h1 h2 h3 =>
      cases g with
      | tri f g1 g2 g3 =>
        rw [It.dep] at hd
        cases ho with
        | tri o p q => exact .t e f (.cons .s (.cons (ih (by omega) o h1 g1).up (.cons (ih (by omega) p h2 g2).up (.cons (ih (by omega) q h3 g3).up .nil)))) (Nat.le_of_ble_eq_true rfl)
    | grp e e2 hl hk =>
      cases g with
      | grp f f2 gl gk =>
        rw [It.dep] at hd
        cases ho with
        | grp _ hll hall =>
          refine .t e f (.cons .s (.cons (.t e2 f2 ⟨by rw [hl, gl], fun k x y hx hy => ?_⟩ (by rw [gl]; omega)) .nil)) (Nat.le_of_ble_eq_true rfl)
          have hkl := (List.getElem?_eq_some_iff.mp hx).1
          rw [hl] at hkl
          have ej := List.getElem?_eq_getElem hkl
          have hmem := List.getElem_mem hkl
          have h1 := depL_in hmem
          exact ih (by omega) (hall _ hmem) (hk k _ x ej hx) (gk k _ y ej hy)
section
variable {P : Program} {w : World} {K : PySem.W.Frag} {mg : Str → Option Value} {base : Heap}
/-! ### _law_same -/
def spSame (n : Nat) : Sp := fun vs H Q _ => ∃ u v : V, vs = [u, v] ∧ Alike n H u v ∧ Q (.bl true) H
theorem ok_law_same (T : Txt K mg) : ∀ n : Nat, FnOk P w K mg base CX0 (n + 1) T.a_law_same T.d_law_same P_law_same (spSame n)
  | 0 => by
    have no : ∀ vs H Q E, ¬ spSame 0 vs H Q E := fun vs H Q E ⟨u, v, _, h, _⟩ => h
    exact ⟨fun vs H Q E h => absurd h (no vs H Q E), fun A outer s H args us vs Q E _ _ _ _ h => absurd h (no vs H Q E)⟩
  | n + 1 => by
    have G_law_same := ok_law_same T n
    refine T.F_law_same.ok sc_law_same (fun vs H Q E h => ?_) (fun cdv A outer s H vs Q E hr h => ?_)
    · obtain ⟨u, v, rfl, _⟩ := h
      rfl
    obtain ⟨u, v, rfl, h, q⟩ := h
    refine ⟨_, (pss_cons (ps_if (PW.pt (pw_or (pt_val (pe_callB (call_isi) (by rfl) T.z_isinstance (by decide +kernel) (pa_cons (pv 1) (pa_cons (pe_bltn (v := .ty "tuple") (u := .type "tuple") (by rfl) T.z_tuple (by decide +kernel) rfl) pa_nil)))) (pw_or1 (pt_val (pe_callB (call_isi) (by rfl) T.z_isinstance (by decide +kernel) (pa_cons (pv 1) (pa_cons (pe_bltn (v := .ty "list") (u := .type "list") (by rfl) T.z_list (by decide +kernel) rfl) pa_nil)))))))
    (pss_cons (ps_if (PW.pt (pw_and (pt_val (pe_callB (call_isi) (by rfl) T.z_isinstance (by decide +kernel) (pa_cons (pv 1) (pa_cons (pe_bltn (v := .ty "tuple") (u := .type "tuple") (by rfl) T.z_tuple (by decide +kernel) rfl) pa_nil)))) (pw_and1 (pt_not (pt_val (pe_callB (call_isi) (by rfl) T.z_isinstance (by decide +kernel) (pa_cons (pv 0) (pa_cons (pe_bltn (v := .ty "tuple") (u := .type "tuple") (by rfl) T.z_tuple (by decide +kernel) rfl) pa_nil))))))))
    (pss_one (ps_ret pe_bl))
    pss_nil)
    (pss_cons (ps_if (PW.pt (pw_and (pt_val (pe_callB (call_isi) (by rfl) T.z_isinstance (by decide +kernel) (pa_cons (pv 1) (pa_cons (pe_bltn (v := .ty "list") (u := .type "list") (by rfl) T.z_list (by decide +kernel) rfl) pa_nil)))) (pw_and1 (pt_not (pt_val (pe_callB (call_isi) (by rfl) T.z_isinstance (by decide +kernel) (pa_cons (pv 0) (pa_cons (pe_bltn (v := .ty "list") (u := .type "list") (by rfl) T.z_list (by decide +kernel) rfl) pa_nil))))))))
    (pss_one (ps_ret pe_bl))
    pss_nil)
    (pss_cons (ps_if (pt_cmpR op_ne (pe_callB call_len_seq (by rfl) T.z_len PySem.boot_len (pa_cons (pv 0) pa_nil)) (pe_callB call_len_seq (by rfl) T.z_len PySem.boot_len (pa_cons (pv 1) pa_nil)) (nomark _))
    (pss_one (ps_ret pe_bl))
    pss_nil)
    (pss_cons (ps_for PassesOwn.never rfl (pi_range1 (by rfl) T.z_range (pa_cons (pe_callB call_len_seq (by rfl) T.z_len PySem.boot_len (pa_cons (pv 1) pa_nil)) pa_nil)) (pg_name (i := 2) sc_law_same.nd rfl (Or.inl rfl))
    (pss_one (ps_if (pt_not (pt_val (pe_call G_law_same (hr.mono (by omega)) (by rfl) T.m_law_same T.F_law_same.kp T.b_law_same .nil pass0 (pa_cons (pe_ix ix_tup (pv 0) (pv 2) (fun _ _ => rfl)) (pa_cons (pe_ix ix_tup (pv 1) (pv 2) (fun _ _ => rfl)) pa_nil)))))
    (pss_one (ps_ret pe_bl))
    pss_nil)))
    (pss_one (ps_ret pe_bl))))))
    pss_nil)
    (pss_cons (ps_if (pt_val (pe_callB (call_isi) (by rfl) T.z_isinstance (by decide +kernel) (pa_cons (pv 1) (pa_cons (pe_bltn (v := .ty "str") (u := .type "str") (by rfl) T.z_str (by decide +kernel) rfl) pa_nil))))
    (pss_one (ps_ret (pe_and (pe_callB (call_isi) (by rfl) T.z_isinstance (by decide +kernel) (pa_cons (pv 0) (pa_cons (pe_bltn (v := .ty "str") (u := .type "str") (by rfl) T.z_str (by decide +kernel) rfl) pa_nil))) (pe_one (pe_cmpR op_eq (pv 0) (pv 1) (nomark _))))))
    pss_nil)
    (pss_cons (ps_if (pt_val (pe_callB (call_isi) (by rfl) T.z_isinstance (by decide +kernel) (pa_cons (pv 1) (pa_cons (pe_bltn (v := .ty "bool") (u := .type "bool") (by rfl) T.z_bool (by decide +kernel) rfl) pa_nil))))
    (pss_one (ps_ret (pe_and (pe_callB (call_isi) (by rfl) T.z_isinstance (by decide +kernel) (pa_cons (pv 0) (pa_cons (pe_bltn (v := .ty "bool") (u := .type "bool") (by rfl) T.z_bool (by decide +kernel) rfl) pa_nil))) (pe_one (pe_cmpR op_eq (pv 0) (pv 1) (nomark _))))))
    pss_nil)
    (pss_one (ps_ret (pe_and (pe_callB (call_isi) (by rfl) T.z_isinstance (by decide +kernel) (pa_cons (pv 0) (pa_cons (pe_bltn (v := .ty "int") (u := .type "int") (by rfl) T.z_int (by decide +kernel) rfl) pa_nil))) (pe_and (pe_not (pe_callB (call_isi) (by rfl) T.z_isinstance (by decide +kernel) (pa_cons (pv 0) (pa_cons (pe_bltn (v := .ty "bool") (u := .type "bool") (by rfl) T.z_bool (by decide +kernel) rfl) pa_nil)))) (pe_one (pe_cmpR op_eq (pv 0) (pv 1) (nomark _)))))))))), ?_⟩
    rcases h with ⟨s, rfl, rfl⟩ | ⟨i, rfl, rfl⟩ | ⟨a, b, xs, ys, rfl, rfl, ea, eb, hl, hz, hall⟩
    · refine ⟨_, rfl, _, _, .type "str", .type "tuple", false, rfl, .ty "tuple", .base (.str _), kit_ty (by decide +kernel), false, rfl, ?_⟩
      refine iteF ⟨_, rfl, _, _, .type "str", .type "list", false, rfl, .ty "list", .base (.str _), kit_ty (by decide +kernel), false, rfl, ?_⟩
      refine iteF ⟨_, rfl, _, _, .type "str", .type "str", true, rfl, .ty "str", .base (.str _), kit_ty (by decide +kernel), true, rfl, ?_⟩
      refine iteT ⟨_, rfl, _, _, .type "str", .type "str", true, rfl, .ty "str", .base (.str _), kit_ty (by decide +kernel), true, rfl, ?_⟩
      exact iteT ⟨_, rfl, _, rfl, rfl, boolE (decide_eq_true rfl) q⟩
    · refine ⟨_, rfl, _, _, .type "int", .type "tuple", false, rfl, .ty "tuple", .base (.int _), kit_ty (by decide +kernel), false, rfl, ?_⟩
      refine iteF ⟨_, rfl, _, _, .type "int", .type "list", false, rfl, .ty "list", .base (.int _), kit_ty (by decide +kernel), false, rfl, ?_⟩
      refine iteF ⟨_, rfl, _, _, .type "int", .type "str", false, rfl, .ty "str", .base (.int _), kit_ty (by decide +kernel), false, rfl, ?_⟩
      refine iteF ⟨_, rfl, _, _, .type "int", .type "bool", false, rfl, .ty "bool", .base (.int _), kit_ty (by decide +kernel), false, rfl, ?_⟩
      refine iteF ⟨_, rfl, _, _, .type "int", .type "int", true, rfl, .ty "int", .base (.int _), kit_ty (by decide +kernel), true, rfl, ?_⟩
      refine iteT ⟨_, rfl, _, _, .type "int", .type "bool", false, rfl, .ty "bool", .base (.int _), kit_ty (by decide +kernel), false, rfl, true, rfl, ?_⟩
      exact iteT ⟨_, rfl, _, rfl, rfl, boolE (decide_eq_true rfl) q⟩
    · refine ⟨_, rfl, _, _, .type "tuple", .type "tuple", true, rfl, .ty "tuple", .base (.tup eb), kit_ty (by decide +kernel), true, rfl, ?_⟩
      refine iteT (iteT ?_)
      refine ⟨_, rfl, _, _, .type "tuple", .type "tuple", true, rfl, .ty "tuple", .base (.tup eb), kit_ty (by decide +kernel), true, rfl, ?_⟩
      refine iteT ⟨_, rfl, _, _, .type "tuple", .type "tuple", true, rfl, .ty "tuple", .base (.tup ea), kit_ty (by decide +kernel), true, rfl, ?_⟩
      refine iteF ?_
      refine ⟨_, rfl, _, _, .type "tuple", .type "list", false, rfl, .ty "list", .base (.tup eb), kit_ty (by decide +kernel), false, rfl, ?_⟩
      refine iteF (iteF ?_)
      refine ⟨_, rfl, a, _, rfl, .inr (sqt ea), _, rfl, b, _, rfl, .inr (sqt eb), rfl, _, rfl, ?_⟩
      refine ifF (by rw [hl, decide_eq_true rfl] <;> rfl) ?_
      refine ⟨_, rfl, b, _, rfl, .inr (sqt eb), _, rfl, by omega, by omega, for_range (lo := 0) (n := ys.length) (fun j σ H' => ∃ y : Option V, σ = [some (.ref a), some (.ref b), y] ∧ H' = H) ?_ ?_ ?_⟩
      · exact ⟨none, rfl, rfl⟩
      · rintro j σ H' hj ⟨y, rfl, rfl⟩
        have hjx : xs[j]? = some xs[j] := List.getElem?_eq_getElem (by omega)
        have hjy : ys[j]? = some ys[j] := List.getElem?_eq_getElem hj
        have e0 : (0 : Int) + (j : Int) = (j : Int) := Int.zero_add _
        refine ⟨_, rfl, _, rfl, a, _, _, _, rfl, rfl, sqt ea, by rw [e0]; exact atI_nat hjx, _, rfl, _, rfl, b, _, _, _, rfl, rfl, sqt eb, by rw [e0]; exact atI_nat hjy, ?_⟩
        refine ⟨_, _, rfl, hall j _ _ hjx hjy, true, rfl, ?_⟩
        exact iteF ⟨_, rfl, rfl⟩
      · rintro σ H' ⟨y, rfl, rfl⟩
        exact q
end
end NL

namespace NL
open PySem PySem.Spec PyProof.Rows L2
theorem mul_blank {v : Int} (h : v ∈ ([0, 1, 2, 7] : List Int)) : (0 ≤ v ∧ v ≤ 7) ∧ tl (Txt.mul " " v) = List.replicate v.toNat 32 := by
  simp only [List.mem_cons, List.not_mem_nil, or_false] at h
  rcases h with rfl | rfl | rfl | rfl <;> exact ⟨⟨by decide, by decide⟩, by decide +kernel⟩
/-- all but what stands at s stays -/
def But (s : Addr) (H H' : Hp) : Prop := ∀ b o, b ≠ s → H b = some o → H' b = some o
theorem But.same {s : Addr} {H H1 H2 : Hp} (h : But s H H1) (g : Same H1 H2) : But s H H2 := fun b o n e => g b o (h b o n e)
theorem But.put {s : Addr} {H H1 : Hp} {o : HO} (h : But s H H1) : But s H (upd H1 s o) := fun b u n e => by
  rw [upd_ne n]; exact h b u n e
section
variable {P : Program} {w : World} {K : PySem.W.Frag} {mg : Str → Option Value} {base : Heap}
/-! ### _law_spaced -/
def spSpaced : Sp := fun vs H Q _ => ∃ (p s : Addr) (ts : List Str) (pat : Int), vs = [.ref p, .int pat, .ref s] ∧ H p = some (.lst (ts.map V.str)) ∧ p ≠ s ∧ H s = some (.lst []) ∧ ts.length ≤ 10000 ∧ (∀ t ∈ ts, t.length ≤ 300) ∧
  ∀ z H', But s H H' → Lay ts (tl z) → z.length ≤ 10000000 → Q (.str z) H'
theorem ok_law_spaced (T : Txt K mg) : FnOk P w K mg base CX0 1 T.a_law_spaced T.d_law_spaced P_law_spaced spSpaced := by
  refine T.F_law_spaced.ok sc_law_spaced (fun vs H Q E h => ?_) (fun cdv A outer s H vs Q E hr h => ?_)
  · obtain ⟨p, s, ts, pat, rfl, _⟩ := h
    rfl
  obtain ⟨p, s, ts, pat, rfl, hp, hps, hs, hl, ht, q⟩ := h
  refine ⟨_, (pss_cons (ps_set (i := 3) sc_law_spaced.nd rfl (Or.inl rfl) pe_str)
    (pss_cons (ps_set (i := 4) sc_law_spaced.nd rfl (Or.inl rfl) (pv 1))
    (pss_cons (ps_for PassesOwn.never rfl (pi_list (pv 0)) (pg_name (i := 5) sc_law_spaced.nd rfl (Or.inl rfl))
    (pss_cons (ps_set (i := 3) sc_law_spaced.nd rfl (Or.inl rfl) (pe_op op_add_str (pv 3) (pe_op op_mulS pe_str (pe_ix ix_list (pe_lst (pa_cons pe_int (pa_cons pe_int (pa_cons pe_int (pa_cons pe_int pa_nil))))) (pe_op op_mod (pe_callTy call_int1 (by rfl) T.z_int (by decide +kernel) (pa_cons (pv 4) pa_nil)) pe_int) (fun _ _ => rfl)))))
    (pss_cons (ps_set (i := 4) sc_law_spaced.nd rfl (Or.inl rfl) (pe_op op_fdiv (pv 4) pe_int))
    (C8.pss_cut (ps_if (pt_cmpR op_eq (pv 4) pe_int (nomark _))
    (pss_one (ps_set (i := 4) sc_law_spaced.nd rfl (Or.inl rfl) (pv 1)))
    pss_nil)
    (pss_cons (ps_expr (pe_bm PySem.F.plainAttrs_list PySem.F.slot_list_append PySem.F.type_list_append mt_append (pv 2) (pa_cons (pe_callB call_len_str (by rfl) T.z_len PySem.boot_len (pa_cons (pv 3) pa_nil)) pa_nil)))
    (pss_one (ps_set (i := 3) sc_law_spaced.nd rfl (Or.inl rfl) (pe_op op_add_str (pv 3) (pv 5)))))))))
    (pss_one (ps_ret (pe_op op_add_str (pv 3) (pe_op op_mulS pe_str (pe_ix ix_list (pe_lst (pa_cons pe_int (pa_cons pe_int (pa_cons pe_int (pa_cons pe_int pa_nil))))) (pe_op op_mod (pe_callTy call_int1 (by rfl) T.z_int (by decide +kernel) (pa_cons (pv 4) pa_nil)) pe_int) (fun _ _ => rfl))))))))), ?_⟩
  have b1 : (" " : Str).length = 1 := by decide +kernel
  have mlen : ∀ v : Int, v ∈ ([0, 1, 2, 7] : List Int) → (Txt.mul " " v).length ≤ 7 := fun v hv => by
    obtain ⟨hb, e⟩ := mul_blank hv
    rw [← tl_len, e, List.length_replicate]
    omega
  refine ⟨_, rfl, _, rfl, p, rfl, ⟨_, sqd hp⟩, for_list (K := K) (a := p) (xs := ts.map V.str) (fun j σ H' => ∃ (z : Str) (rest : Int) (ns : List V) (y : Option V), σ = [some (.ref p), some (.int pat), some (.ref s), some (.str z), some (.int rest), y] ∧ But s H H' ∧ H' s = some (.lst ns) ∧ ns.length = j ∧ z.length ≤ 307 * j ∧
    ∀ r c, Lay r c → Lay (ts.take j ++ r) (tl z ++ c)) ?_ ?_ ?_ ?_⟩
  · exact ⟨"", pat, [], none, rfl, fun _ _ _ e => e, hs, rfl, by decide +kernel, fun r c h => h⟩
  · rintro j σ H' _ ⟨z, rest, ns, y, rfl, f, _⟩
    exact sqd (f _ _ hps hp)
  · rintro j x σ H' hx ⟨z, rest, ns, y, rfl, f, es, hn, hz, hL⟩
    rw [List.getElem?_map] at hx
    cases htj : ts[j]? with
    | none => rw [htj] at hx; cases hx
    | some t =>
      rw [htj] at hx
      obtain rfl : V.str t = x := Option.some.inj hx
      have hj : j < ts.length := (List.getElem?_eq_some_iff.mp htj).1
      have htl := ht t (List.mem_of_getElem? htj)
      refine ⟨_, rfl, (Nat.le_of_ble_eq_true rfl), fun l hl' => ?_⟩
      obtain ⟨v, hv, hm⟩ := atI_map (f := V.int) (xs := [0, 1, 2, 7]) (i := rest % 4) (Int.emod_nonneg _ (by decide)) (by show rest % 4 < 4; exact Int.emod_lt_of_pos _ (by decide))
      obtain ⟨hb, em⟩ := mul_blank hm
      have hml := mlen v hm
      refine ⟨_, rfl, .inl ⟨_, rfl, _, _, rfl, rfl, (by show (0 : Int) < 4; decide), l, _, _, _, rfl, rfl, sqd upd_same, hv, ?_⟩⟩
      refine ⟨_, _, rfl, rfl, by rw [b1]; decide, hb.1, by omega, fun _ => ?_⟩
      refine ⟨_, _, rfl, rfl, szl (by omega), ?_⟩
      refine ⟨_, rfl, _, _, rfl, rfl, ⟨by decide, by decide⟩, ?_⟩
      have s1 := fun o => same_new hl' o
      have f1 := fun o => f.same (s1 o)
      have es1 := fun o => s1 o _ _ es
      refine ⟨fun σ' H'' => ∃ rest' : Int, σ' = [some (.ref p), some (.int pat), some (.ref s), some (.str (z ++ Txt.mul " " v)), some (.int rest'), some (.str t)] ∧ But s H H'' ∧ H'' s = some (.lst ns), ?_, ?_⟩
      · refine ⟨_, rfl, rfl, _, rfl, ?_⟩
        refine ite2 (fun c => ?_) (fun c => ?_)
        · exact ⟨_, rfl, _, rfl, f1 _, es1 _⟩
        · exact ⟨_, rfl, f1 _, es1 _⟩
      · rintro σ' H'' ⟨rest', rfl, f2, es2⟩
        have hzl : (z ++ Txt.mul " " v).length = z.length + (Txt.mul " " v).length := len_app _ _
        refine ⟨_, rfl, .inl ⟨rfl, _, sqd es2⟩, _, rfl, _, rfl, szl (by omega), s, _, _, rfl, rfl, es2, by rw [hn]; exact big' (by omega), ?_⟩
        refine ⟨_, rfl, _, rfl, _, _, rfl, rfl, szl (by omega), ?_⟩
        refine ⟨z ++ Txt.mul " " v ++ t, rest', _, _, rfl, f2.put, upd_same, ?_, ?_, fun r c h => ?_⟩
        · rw [List.length_append, hn] <;> rfl
        · rw [len_app]; omega
        · have h1 := hL (t :: r) (List.replicate v.toNat 32 ++ (tl t ++ c)) (.cons _ h)
          rw [List.take_add_one, htj, tl_app, tl_app, em]
          rw [List.append_assoc, List.append_assoc, List.append_assoc]
          exact h1
  · rintro σ H' ⟨z, rest, ns, y, rfl, f, es, hn, hz, hL⟩
    rw [List.length_map] at hn hz hL
    refine ⟨_, rfl, (Nat.le_of_ble_eq_true rfl), fun l hl' => ?_⟩
    obtain ⟨v, hv, hm⟩ := atI_map (f := V.int) (xs := [0, 1, 2, 7]) (i := rest % 4) (Int.emod_nonneg _ (by decide)) (by show rest % 4 < 4; exact Int.emod_lt_of_pos _ (by decide))
    obtain ⟨hb, em⟩ := mul_blank hm
    have hml := mlen v hm
    refine ⟨_, rfl, .inl ⟨_, rfl, _, _, rfl, rfl, (by show (0 : Int) < 4; decide), l, _, _, _, rfl, rfl, sqd upd_same, hv, ?_⟩⟩
    refine ⟨_, _, rfl, rfl, by rw [b1]; decide, hb.1, by omega, fun _ => ?_⟩
    refine ⟨_, _, rfl, rfl, szl (by omega), ?_⟩
    refine q _ _ (f.same (same_new hl' _)) ?_ (by rw [len_app]; omega)
    have h1 := hL [] _ (.nil v.toNat)
    rw [List.take_length, List.append_nil] at h1
    rw [tl_app, em]
    exact h1
/-! ### _law_pattern -/
def spPattern : Sp := fun vs H Q _ => ∃ (d : Addr) (c : Int), vs = [.ref d, .int c] ∧ Dr H d ∧ ∀ n H', Go d H H' → Q (.int n) H'
theorem ok_law_pattern (T : Txt K mg) : FnOk P w K mg base CX0 2 T.a_law_pattern T.d_law_pattern P_law_pattern spPattern := by
  have G_law_take := ok_law_take (P := P) (w := w) (base := base) T
  refine T.F_law_pattern.ok sc_law_pattern (fun vs H Q E h => ?_) (fun cdv A outer s H vs Q E hr h => ?_)
  · obtain ⟨d, c, rfl, _⟩ := h
    rfl
  obtain ⟨d, c, rfl, hD, q⟩ := h
  refine ⟨_, (pss_one (ps_ret (pe_ix ix_list (pe_lst (pa_cons pe_int (pa_cons pe_int (pa_cons pe_int (pa_cons (pe_op op_add pe_int (pe_call G_law_take (hr.mono (by omega)) (by rfl) T.m_law_take T.F_law_take.kp T.b_law_take .nil pass0 (pa_cons (pv 0) (pa_cons pe_int pa_nil)))) (pa_cons (pe_op op_add pe_int (pe_call G_law_take (hr.mono (by omega)) (by rfl) T.m_law_take T.F_law_take.kp T.b_law_take .nil pass0 (pa_cons (pv 0) (pa_cons pe_int pa_nil)))) (pa_cons (pe_callB (call_abs) (by rfl) T.z_abs (by decide +kernel) (pa_cons (pv 1) pa_nil)) pa_nil))))))) (pe_call G_law_take (hr.mono (by omega)) (by rfl) T.m_law_take T.F_law_take.kp T.b_law_take .nil pass0 (pa_cons (pv 0) (pa_cons pe_int pa_nil))) (fun _ _ => rfl)))), ?_⟩
  refine ⟨_, rfl, d, _, rfl, hD, (by decide), fun r1 H1 g1 a0 a1 => ?_⟩
  refine ⟨_, _, rfl, rfl, _, rfl, d, _, rfl, g1.dr, (by decide), fun r2 H2 g2 b0 b1 => ?_⟩
  refine ⟨_, _, rfl, rfl, _, rfl, _, rfl, (Nat.le_of_ble_eq_true rfl), fun p hp => ?_⟩
  have g3 := fun o => Go.new (o := o) g2.dr hp
  refine ⟨_, rfl, d, _, rfl, (g3 _).dr, (by decide), fun u H4 g4 u0 u1 => ?_⟩
  have e4 := g4.at g2.dr hp
  obtain ⟨v, hv, hm⟩ := atI_map (f := V.int) (xs := [0, 1, 5, 1 + r1, 1 + r2, if c < 0 then -c else c]) u0 u1
  exact ⟨_, _, _, _, rfl, rfl, sqd e4, hv, q v H4 (g1.trans (g2.trans ((g3 _).trans g4)))⟩
/-! ### read_expression, read_condition -/
def spRE (b : Bool) : Sp := fun vs H Q _ => ∃ (z : Str) (xs : List Str) (B : Nat) (i : It), vs = [.str z] ∧ z.length ≤ 10000000 ∧ Lay i.tk (tl z) ∧ Okx xs B b i ∧ Rd xs B ∧ i.dep ≤ 12 ∧ ∀ v H', Same H H' → ItemIn H' i v → Q v H'
theorem rd_expression (T : Txt K mg) (D : Dic K w mg) : FnOk P w K mg base CX0 42 T.aread_expression T.dread_expression Pread_expression (spRE false) := by
  have Gread_whole := ok_read_whole (P := P) (base := base) T D
  refine T.Fread_expression.ok scread_expression (fun vs H Q E h => ?_) (fun cdv A outer s H vs Q E hr h => ?_)
  · obtain ⟨z, xs, B, i, rfl, _⟩ := h
    rfl
  obtain ⟨z, xs, B, i, rfl, hz, hL, ho, hR, hd, g⟩ := h
  exact ⟨_, (pss_one (ps_ret (pe_call Gread_whole (hr.mono (by omega)) (by rfl) T.mread_whole T.Fread_whole.kp T.bread_whole .nil pass0 (pa_cons (pv 0) (pa_cons pe_str pa_nil))))), _, rfl, z, "expression", xs, B, i, rfl, hz, hL, .ex ho, hR, hd, g⟩
theorem rd_condition (T : Txt K mg) (D : Dic K w mg) : FnOk P w K mg base CX0 42 T.aread_condition T.dread_condition Pread_condition (spRE true) := by
  have Gread_whole := ok_read_whole (P := P) (base := base) T D
  refine T.Fread_condition.ok scread_condition (fun vs H Q E h => ?_) (fun cdv A outer s H vs Q E hr h => ?_)
  · obtain ⟨z, xs, B, i, rfl, _⟩ := h
    rfl
  obtain ⟨z, xs, B, i, rfl, hz, hL, ho, hR, hd, g⟩ := h
  exact ⟨_, (pss_one (ps_ret (pe_call Gread_whole (hr.mono (by omega)) (by rfl) T.mread_whole T.Fread_whole.kp T.bread_whole .nil pass0 (pa_cons (pv 0) (pa_cons pe_str pa_nil))))), _, rfl, z, "condition", xs, B, i, rfl, hz, hL, .te ho, hR, hd, g⟩
/-! ### _law_read, _law_again -/
def spLRead : Sp := fun vs H Q _ => ∃ (u : V) (z : Str) (xs : List Str) (B : Nat) (b : Bool) (i : It), vs = [u, .str z] ∧ ItemIn H i u ∧ z.length ≤ 10000000 ∧ Lay i.tk (tl z) ∧ Fit xs B 12 b i ∧ Rd xs B ∧ ∀ v H', Same H H' → ItemIn H' i v → Q v H'
theorem ok_law_read (T : Txt K mg) (D : Dic K w mg) : FnOk P w K mg base CX0 43 T.a_law_read T.d_law_read P_law_read spLRead := by
  have G_law_is_test := ok_law_is_test (P := P) (w := w) (base := base) T
  have Gread_expression := rd_expression (P := P) (base := base) T D
  have Gread_condition := rd_condition (P := P) (base := base) T D
  refine T.F_law_read.ok sc_law_read (fun vs H Q E h => ?_) (fun cdv A outer s H vs Q E hr h => ?_)
  · obtain ⟨u, z, xs, B, b, i, rfl, _⟩ := h
    rfl
  obtain ⟨u, z, xs, B, b, i, rfl, hu, hz, hL, hF, hR, g⟩ := h
  refine ⟨_, (pss_cons (ps_if (pt_val (pe_call G_law_is_test (hr.mono (by omega)) (by rfl) T.m_law_is_test T.F_law_is_test.kp T.b_law_is_test .nil pass0 (pa_cons (pv 0) pa_nil)))
    (pss_one (ps_ret (pe_call Gread_condition (hr.mono (by omega)) (by rfl) T.mread_condition T.Fread_condition.kp T.bread_condition .nil pass0 (pa_cons (pv 1) pa_nil))))
    pss_nil)
    (pss_one (ps_ret (pe_call Gread_expression (hr.mono (by omega)) (by rfl) T.mread_expression T.Fread_expression.kp T.bread_expression .nil pass0 (pa_cons (pv 1) pa_nil))))), ?_⟩
  have ho := hF.ok
  refine ⟨_, rfl, u, i, xs, B, b, rfl, hu, ho, fun H1 s1 => ⟨b, rfl, ?_⟩⟩
  cases b with
  | true => exact iteT ⟨_, rfl, z, xs, B, i, rfl, hz, hL, ho, hR, hF.dp, fun v H' s2 hv => g v H' (s1.trans s2) hv⟩
  | false => exact iteF ⟨_, rfl, z, xs, B, i, rfl, hz, hL, ho, hR, hF.dp, fun v H' s2 hv => g v H' (s1.trans s2) hv⟩
def spLAgain : Sp := fun vs H Q _ => ∃ (u : V) (z : Str) (xs : List Str) (B : Nat) (b : Bool) (i : It), vs = [u, .str z] ∧ ItemIn H i u ∧ z.length ≤ 10000000 ∧ Lay i.tk (tl z) ∧ Fit xs B 12 b i ∧ Rd xs B ∧ ∀ H', Same H H' → Q (.str i.wr) H'
theorem ok_law_again (T : Txt K mg) (D : Dic K w mg) : FnOk P w K mg base CX0 43 T.a_law_again T.d_law_again P_law_again spLAgain := by
  have G_law_is_test := ok_law_is_test (P := P) (w := w) (base := base) T
  have Gread_expression := rd_expression (P := P) (base := base) T D
  have Gread_condition := rd_condition (P := P) (base := base) T D
  have Gwrite_condition := ok_write_condition (P := P) (w := w) (base := base) T 12
  have Gwrite_expression := ok_write_expression (P := P) (w := w) (base := base) T 12
  refine T.F_law_again.ok sc_law_again (fun vs H Q E h => ?_) (fun cdv A outer s H vs Q E hr h => ?_)
  · obtain ⟨u, z, xs, B, b, i, rfl, _⟩ := h
    rfl
  obtain ⟨u, z, xs, B, b, i, rfl, hu, hz, hL, hF, hR, g⟩ := h
  refine ⟨_, (pss_cons (ps_if (pt_val (pe_call G_law_is_test (hr.mono (by omega)) (by rfl) T.m_law_is_test T.F_law_is_test.kp T.b_law_is_test .nil pass0 (pa_cons (pv 0) pa_nil)))
    (pss_one (ps_ret (pe_call Gwrite_condition (hr.mono (by omega)) (by rfl) T.mwrite_condition T.Fwrite_condition.kp T.bwrite_condition .nil pass0 (pa_cons (pe_call Gread_condition (hr.mono (by omega)) (by rfl) T.mread_condition T.Fread_condition.kp T.bread_condition .nil pass0 (pa_cons (pv 1) pa_nil)) pa_nil))))
    pss_nil)
    (pss_one (ps_ret (pe_call Gwrite_expression (hr.mono (by omega)) (by rfl) T.mwrite_expression T.Fwrite_expression.kp T.bwrite_expression .nil pass0 (pa_cons (pe_call Gread_expression (hr.mono (by omega)) (by rfl) T.mread_expression T.Fread_expression.kp T.bread_expression .nil pass0 (pa_cons (pv 1) pa_nil)) pa_nil))))), ?_⟩
  have ho := hF.ok
  refine ⟨_, rfl, u, i, xs, B, b, rfl, hu, ho, fun H1 s1 => ⟨b, rfl, ?_⟩⟩
  cases b with
  | true => exact iteT ⟨_, rfl, z, xs, B, i, rfl, hz, hL, ho, hR, hF.dp, fun v H' s2 hv => ⟨v, i, xs, B, true, rfl, hv, hF, fun H3 s3 => g H3 (s1.trans (s2.trans s3))⟩⟩
  | false => exact iteF ⟨_, rfl, z, xs, B, i, rfl, hz, hL, ho, hR, hF.dp, fun v H' s2 hv => ⟨v, i, xs, B, false, rfl, hv, hF, fun H3 s3 => g H3 (s1.trans (s2.trans s3))⟩⟩
/-! ### the law -/
def spLaw (K : PySem.W.Frag) : Sp := fun vs H Q _ => ∃ (a : Addr) (ns : List Int), vs = [.ref a] ∧ SqL K H a (ns.map V.int) ∧ ns.length ≤ 63 ∧ ∀ H', Q (.bl true) H'
theorem tk_lens {xs : List Str} {B : Nat} (hx : ∀ x ∈ xs, Nam x) (hB : B < 10 ^ 60 + 1) {b : Bool} {i : It} (h : Okx xs B b i) : ∀ t ∈ i.tk, t.length ≤ 300 := by
  have e60 : (10 : Nat) ^ 61 = 10 * 10 ^ 60 := by decide
  have p1 : ("(" : Str).length = 1 ∧ (")" : Str).length = 1 ∧ ("," : Str).length = 1 := by decide +kernel
  refine kids_rec (p := fun i => ∀ t ∈ i.tk, t.length ≤ 300) (fun b i h h0 => ?_) (fun b i h h0 ih => ?_) h
  · cases h with
    | num hn =>
      rw [It.tk]
      intro t ht
      rw [List.mem_singleton.mp ht]
      have := itxt_len (n := _) (show _ < 10 ^ 61 from Nat.lt_of_le_of_lt hn (by omega))
      omega
    | name hm =>
      rw [It.tk]
      intro t ht
      rw [List.mem_singleton.mp ht]
      have := (hx _ hm).len
      omega
    | lit =>
      rename_i b
      rw [It.tk]
      intro t ht
      rw [List.mem_singleton.mp ht]
      have : (bstr b).length ≤ 10 := by cases b <;> decide +kernel
      omega
    | abs _ => cases h0
    | not _ => cases h0
    | dm _ _ _ _ => cases h0
    | bin _ _ _ => cases h0
    | cmp _ _ _ => cases h0
    | tri _ _ _ => cases h0
    | grp _ _ _ => cases h0
  · have hw := (word_wd h).2
    rw [tk_pts h0]
    have hpt : ∀ p ∈ i.pts, ∀ t ∈ p.tk, t.length ≤ 300 := fun p hp t ht => by
      rcases pts_mem hp with ⟨j, hj, rfl⟩ | ⟨n, rfl⟩
      · exact ih j hj t ht
      · rw [List.mem_singleton.mp ht]
        have hn : n.natAbs ≤ B + 1 := by
          cases h with
          | dm _ _ _ h2 =>
            simp only [It.pts, List.mem_cons, List.not_mem_nil, or_false] at hp
            rcases hp with hp | hp
            · cases hp
            · cases hp; exact h2
          | num _ => cases hp
          | name _ => cases hp
          | lit => cases hp
          | abs _ => simp [It.pts] at hp
          | not _ => simp [It.pts] at hp
          | bin _ _ _ => simp [It.pts] at hp
          | cmp _ _ _ => simp [It.pts] at hp
          | tri _ _ _ => simp [It.pts] at hp
          | grp _ _ _ => simp [It.pts] at hp
        have := itxt_len (n := n) (by omega)
        omega
    have htl : ∀ l : List Pt, (∀ p ∈ l, ∀ t ∈ p.tk, t.length ≤ 300) → ∀ t ∈ tlP l, t.length ≤ 300 := fun l => by
      induction l with
      | nil => intro _ t ht; rw [List.mem_singleton.mp ht]; omega
      | cons p r ihl =>
        intro hl t ht
        rcases List.mem_cons.mp ht with rfl | ht
        · omega
        · rcases List.mem_append.mp ht with ht | ht
          · exact hl p List.mem_cons_self t ht
          · exact ihl (fun x hx => hl x (List.mem_cons_of_mem _ hx)) t ht
    intro t ht
    rcases List.mem_cons.mp ht with rfl | ht
    · omega
    · revert ht hpt
      generalize i.pts = l
      cases l with
      | nil =>
        intro _ ht
        rcases List.mem_cons.mp ht with rfl | ht
        · omega
        · rw [List.mem_singleton.mp ht]; omega
      | cons p r =>
        intro hpt ht
        rcases List.mem_cons.mp ht with rfl | ht
        · omega
        · rcases List.mem_append.mp ht with ht | ht
          · exact hpt p List.mem_cons_self t ht
          · exact htl r (fun x hx => hpt x (List.mem_cons_of_mem _ hx)) t ht
theorem ok_law (T : Txt K mg) (D : Dic K w mg) : FnOk P w K mg base CX0 50 T.alaw T.dlaw Plaw (spLaw K) := by
  have hB : 100 ≤ 10 ^ 60 - 2 := by decide
  have G_law_draws := ok_law_draws (P := P) (w := w) (base := base) T
  have G_law_cell := ok_law_cell (P := P) (w := w) (base := base) T
  have G_law_great := ok_law_great (P := P) (w := w) (base := base) T
  have G_law_names := ok_law_names (P := P) (w := w) (base := base) T
  have G_law_text_item := ok_law_text_item (P := P) (w := w) (base := base) hB T
  have G_law_tokens := ok_law_tokens (P := P) (w := w) (base := base) T 12
  have G_law_written := ok_law_written (P := P) (w := w) (base := base) T
  have G_law_spaced := ok_law_spaced (P := P) (w := w) (base := base) T
  have G_law_pattern := ok_law_pattern (P := P) (w := w) (base := base) T
  have G_law_same := ok_law_same (P := P) (w := w) (base := base) T 25
  have G_law_read := ok_law_read (P := P) (base := base) T D
  have G_law_again := ok_law_again (P := P) (base := base) T D
  refine T.Flaw.ok sclaw (fun vs H Q E h => ?_) (fun cdv A outer s H vs Q E hr h => ?_)
  · obtain ⟨a, ns, rfl, _⟩ := h
    rfl
  obtain ⟨a, ns, rfl, hS, hl, q⟩ := h
  refine ⟨_, (pss_cons (ps_set (i := 1) sclaw.nd rfl (Or.inl rfl) (pe_call G_law_draws (hr.mono (by omega)) (by rfl) T.m_law_draws T.F_law_draws.kp T.b_law_draws .nil pass0 (pa_cons (pv 0) (pa_cons pe_int pa_nil))))
    (pss_cons (ps_set (i := 2) sclaw.nd rfl (Or.inl rfl) (pe_call G_law_great (hr.mono (by omega)) (by rfl) T.m_law_great T.F_law_great.kp T.b_law_great .nil pass0 (pa_cons (pv 1) (pa_cons (pe_call G_law_cell (hr.mono (by omega)) (by rfl) T.m_law_cell T.F_law_cell.kp T.b_law_cell .nil pass0 (pa_cons (pv 0) (pa_cons (pv 1) pa_nil))) pa_nil))))
    (pss_cons (ps_set (i := 3) sclaw.nd rfl (Or.inl rfl) (pe_call G_law_names (hr.mono (by omega)) (by rfl) T.m_law_names T.F_law_names.kp T.b_law_names .nil pass0 (pa_cons (pv 1) (pa_cons pe_int pa_nil))))
    (pss_cons (ps_for PassesOwn.never rfl (pi_range1 (by rfl) T.z_range (pa_cons pe_int pa_nil)) (pg_name (i := 4) sclaw.nd rfl (Or.inl rfl))
    (pss_cons (ps_set (i := 5) sclaw.nd rfl (Or.inl rfl) (pe_call G_law_text_item (hr.mono (by omega)) (by rfl) T.m_law_text_item T.F_law_text_item.kp T.b_law_text_item .nil pass0 (pa_cons (pv 1) (pa_cons (pv 3) (pa_cons (pv 2) pa_nil)))))
    (pss_cons (ps_set (i := 6) sclaw.nd rfl (Or.inl rfl) (pe_call G_law_tokens (hr.mono (by omega)) (by rfl) T.m_law_tokens T.F_law_tokens.kp T.b_law_tokens .nil pass0 (pa_cons (pv 5) pa_nil)))
    (pss_cons (ps_set (i := 7) sclaw.nd rfl (Or.inl rfl) (pe_call G_law_written (hr.mono (by omega)) (by rfl) T.m_law_written T.F_law_written.kp T.b_law_written .nil pass0 (pa_cons (pv 6) pa_nil)))
    (pss_cons (ps_set (i := 8) sclaw.nd rfl (Or.inl rfl) (pe_call G_law_spaced (hr.mono (by omega)) (by rfl) T.m_law_spaced T.F_law_spaced.kp T.b_law_spaced .nil pass0 (pa_cons (pv 6) (pa_cons (pe_call G_law_pattern (hr.mono (by omega)) (by rfl) T.m_law_pattern T.F_law_pattern.kp T.b_law_pattern .nil pass0 (pa_cons (pv 1) (pa_cons (pv 2) pa_nil))) (pa_cons (pe_lst pa_nil) pa_nil)))))
    (pss_cons (ps_if (PW.pt (pw_or (pt_not (pt_val (pe_call G_law_same (hr.mono (by omega)) (by rfl) T.m_law_same T.F_law_same.kp T.b_law_same .nil pass0 (pa_cons (pe_call G_law_read (hr.mono (by omega)) (by rfl) T.m_law_read T.F_law_read.kp T.b_law_read .nil pass0 (pa_cons (pv 5) (pa_cons (pv 8) pa_nil))) (pa_cons (pv 5) pa_nil))))) (pw_or1 (pt_not (pt_val (pe_call G_law_same (hr.mono (by omega)) (by rfl) T.m_law_same T.F_law_same.kp T.b_law_same .nil pass0 (pa_cons (pe_call G_law_read (hr.mono (by omega)) (by rfl) T.m_law_read T.F_law_read.kp T.b_law_read .nil pass0 (pa_cons (pv 5) (pa_cons (pv 7) pa_nil))) (pa_cons (pv 5) pa_nil))))))))
    (pss_one (ps_ret pe_bl))
    pss_nil)
    (pss_one (ps_if (pt_cmpR op_ne (pe_call G_law_again (hr.mono (by omega)) (by rfl) T.m_law_again T.F_law_again.kp T.b_law_again .nil pass0 (pa_cons (pv 5) (pa_cons (pv 8) pa_nil))) (pv 7) (nomark _))
    (pss_one (ps_ret pe_bl))
    pss_nil))))))))
    (pss_one (ps_ret pe_bl)))))), ?_⟩
  refine ⟨_, rfl, a, ns, 310, rfl, hS, hl, by decide, by decide, fun d H1 s1 hd D1 => ?_⟩
  have hk := Keep.old hS hd s1
  refine ⟨_, rfl, _, rfl, _, rfl, a, d, ns, rfl, hk, D1, fun c0 H2 g2 _ => ?_⟩
  refine ⟨d, c0, rfl, g2.dr, fun c H3 g3 hc => ?_⟩
  refine ⟨_, rfl, d, 4, rfl, g3.dr, by decide, by decide, fun n xs H4 g4 _ hn e4 hx _ _ _ => ?_⟩
  have hxw : ∀ x ∈ xs, Nw x := fun x h => (hx x h).nw
  have hkn : Keep K d H4 n (xs.map V.str) := .of hn e4
  have hR : Rd xs (10 ^ 60 - 2) := ⟨hx, by decide⟩
  refine ⟨2, rfl, by decide, by decide, for_range (lo := 0) (n := 2) (fun (j : Nat) (σ : L2.St) (H' : Hp) => ∃ (y1 y2 y3 y4 y5 : Option V), σ = [some (.ref a), some (.ref d), some (.int c), some (.ref n), y1, y2, y3, y4, y5] ∧ Go d H4 H') ?_ ?_ ?_⟩
  · exact ⟨none, none, none, none, none, rfl, Go.refl g4.dr⟩
  · rintro j σ H5 hj ⟨y1, y2, y3, y4, y5, rfl, g5⟩
    refine ⟨_, rfl, _, rfl, _, rfl, d, n, xs, c, rfl, g5.dr, hkn.go g5, hc, fun v i b H6 g6 hi ho hd6 hs6 => ?_⟩
    have hf : Fit xs (10 ^ 60 - 2) 12 b i := ⟨ho, hxw, by decide, hd6, hs6⟩
    refine ⟨_, rfl, v, i, xs, _, b, rfl, hi, hf, fun p H7 s7 hp e7 => ?_⟩
    have hw := wr_len hxw (by decide) ho
    have hct := ct_tk hxw ho
    refine ⟨_, rfl, p, i.tk, rfl, e7, by omega, ?_, fun H8 s8 => ?_⟩
    · rw [hct, ← len_list]
      omega
    have ew : Str.join "" (i.tk.map sub) = i.wr := str_ext (by rw [ct_join]; exact hct)
    rw [ew]
    have g8 := g6.trans (Go.same g6.dr (s7.trans s8))
    refine ⟨_, rfl, _, rfl, _, rfl, d, c, rfl, g8.dr, fun pat H9 g9 => ⟨(by decide), fun s hs => ?_⟩⟩
    have np : p ≠ d := by
      rintro rfl
      obtain ⟨ns, e⟩ := g6.dr
      rw [hp] at e; cases e
    have e9 := g9.fr p _ np (s8 _ _ e7)
    have nps : p ≠ s := ne_of_none e9 hs
    refine ⟨p, s, i.tk, pat, rfl, by rw [upd_ne nps]; exact e9, nps, upd_same, by omega, tk_lens hx (by decide) ho, fun z H10 f10 hL hz => ?_⟩
    have nds : d ≠ s := by
      obtain ⟨ns, e⟩ := g9.dr
      exact ne_of_none e hs
    have fr : ∀ b o, H9 b = some o → H10 b = some o := fun b o e => by
      have nb := ne_of_none e hs
      exact f10 b o nb (by rw [upd_ne nb]; exact e)
    have g10 : Go d H9 H10 := Go.same g9.dr fr
    have g0 := g5.trans (g8.trans (g9.trans g10))
    have hi10 : ItemIn H10 i v := ((hi.mono (Tp.same (s7.trans s8))).go g9 g8.dr).mono (Tp.same fr)
    have hL2 : Lay i.tk (tl i.wr) := by
      have := lay_ct i.tk 0
      rw [hct] at this
      exact this
    refine ⟨_, rfl, _, rfl, v, z, xs, _, b, i, rfl, hi10, hz, hL, hf, hR, fun v1 H11 s11 hv1 => ?_⟩
    have hi11 := hi10.mono (Tp.same s11)
    refine ⟨_, rfl, v1, v, rfl, item_alike 12 hd6 ho hv1 hi11, true, rfl, ?_⟩
    refine iteF ?_
    refine ⟨_, rfl, _, rfl, v, i.wr, xs, _, b, i, rfl, hi11, by omega, hL2, hf, hR, fun v2 H12 s12 hv2 => ?_⟩
    have hi12 := hi11.mono (Tp.same s12)
    refine ⟨_, rfl, v2, v, rfl, item_alike 12 hd6 ho hv2 hi12, true, rfl, ?_⟩
    refine iteF ?_
    refine ⟨_, rfl, _, rfl, v, z, xs, _, b, i, rfl, hi12, hz, hL, hf, hR, fun H13 s13 => ?_⟩
    refine ⟨_, rfl, rfl, _, rfl, ?_⟩
    refine ifF (by rw [decide_eq_true rfl] <;> rfl) ?_
    exact ⟨_, _, _, _, _, rfl, g0.trans (Go.same g10.dr (s11.trans (s12.trans s13)))⟩
  · rintro σ H5 ⟨y1, y2, y3, y4, y5, rfl, g5⟩
    exact q H5
end
end NL

namespace NL
open PySem PySem.Spec PyProof.Rows L2
theorem all_mk {l : PySem.W.OpenLaw} {w : World} {K : PySem.W.Frag} {h : Heap} {mg : Str → Option Value} {fa frun_end fis_name fis_integer fparts_in ftokens_of f_piece_end fread_whole f_pass_token f_read_part f_read_divisor f_read_expression f_read_condition f_read_parts f_read_conditions fwrite_expression fwrite_condition f_written fread_expression fread_condition f_law_draws f_law_take f_law_cell f_law_word f_law_some_word f_law_reserved f_law_name f_law_names f_law_same f_law_number f_law_leaf f_law_expression f_law_test f_law_inner f_law_depth f_law_is_test f_law_around f_law_many f_law_great f_law_tokens f_law_written f_law_text_item f_law_spaced f_law_pattern f_law_read f_law_again flaw : Addr} (X : K.In h) (G : h.Ns mainGlobals mg) (hfa : mg "law" = some (.ref fa))
    {odrun_end anrun_end : Option Addr} {slrun_end : Array (Option Value)} {ocrun_end kVrun_end dcrun_end pmrun_end cdrun_end ctrun_end : Value}
    {odis_name anis_name : Option Addr} {slis_name : Array (Option Value)} {ocis_name kVis_name dcis_name pmis_name cdis_name ctis_name : Value}
    {odis_integer anis_integer : Option Addr} {slis_integer : Array (Option Value)} {ocis_integer kVis_integer dcis_integer pmis_integer cdis_integer ctis_integer : Value}
    {odparts_in anparts_in : Option Addr} {slparts_in : Array (Option Value)} {ocparts_in kVparts_in dcparts_in pmparts_in cdparts_in ctparts_in : Value}
    {odtokens_of antokens_of : Option Addr} {sltokens_of : Array (Option Value)} {octokens_of kVtokens_of dctokens_of pmtokens_of cdtokens_of cttokens_of : Value}
    {od_piece_end an_piece_end : Option Addr} {sl_piece_end : Array (Option Value)} {oc_piece_end kV_piece_end dc_piece_end pm_piece_end cd_piece_end ct_piece_end : Value}
    {odread_whole anread_whole : Option Addr} {slread_whole : Array (Option Value)} {ocread_whole kVread_whole dcread_whole pmread_whole cdread_whole ctread_whole : Value}
    {od_pass_token an_pass_token : Option Addr} {sl_pass_token : Array (Option Value)} {oc_pass_token kV_pass_token dc_pass_token pm_pass_token cd_pass_token ct_pass_token : Value}
    {od_read_part an_read_part : Option Addr} {sl_read_part : Array (Option Value)} {oc_read_part kV_read_part dc_read_part pm_read_part cd_read_part ct_read_part : Value}
    {od_read_divisor an_read_divisor : Option Addr} {sl_read_divisor : Array (Option Value)} {oc_read_divisor kV_read_divisor dc_read_divisor pm_read_divisor cd_read_divisor ct_read_divisor : Value}
    {od_read_expression an_read_expression : Option Addr} {sl_read_expression : Array (Option Value)} {oc_read_expression kV_read_expression dc_read_expression pm_read_expression cd_read_expression ct_read_expression : Value}
    {od_read_condition an_read_condition : Option Addr} {sl_read_condition : Array (Option Value)} {oc_read_condition kV_read_condition dc_read_condition pm_read_condition cd_read_condition ct_read_condition : Value}
    {od_read_parts an_read_parts : Option Addr} {sl_read_parts : Array (Option Value)} {oc_read_parts kV_read_parts dc_read_parts pm_read_parts cd_read_parts ct_read_parts : Value}
    {od_read_conditions an_read_conditions : Option Addr} {sl_read_conditions : Array (Option Value)} {oc_read_conditions kV_read_conditions dc_read_conditions pm_read_conditions cd_read_conditions ct_read_conditions : Value}
    {odwrite_expression anwrite_expression : Option Addr} {slwrite_expression : Array (Option Value)} {ocwrite_expression kVwrite_expression dcwrite_expression pmwrite_expression cdwrite_expression ctwrite_expression : Value}
    {odwrite_condition anwrite_condition : Option Addr} {slwrite_condition : Array (Option Value)} {ocwrite_condition kVwrite_condition dcwrite_condition pmwrite_condition cdwrite_condition ctwrite_condition : Value}
    {od_written an_written : Option Addr} {sl_written : Array (Option Value)} {oc_written kV_written dc_written pm_written cd_written ct_written : Value}
    {odread_expression anread_expression : Option Addr} {slread_expression : Array (Option Value)} {ocread_expression kVread_expression dcread_expression pmread_expression cdread_expression ctread_expression : Value}
    {odread_condition anread_condition : Option Addr} {slread_condition : Array (Option Value)} {ocread_condition kVread_condition dcread_condition pmread_condition cdread_condition ctread_condition : Value}
    {od_law_draws an_law_draws : Option Addr} {sl_law_draws : Array (Option Value)} {oc_law_draws kV_law_draws dc_law_draws pm_law_draws cd_law_draws ct_law_draws : Value}
    {od_law_take an_law_take : Option Addr} {sl_law_take : Array (Option Value)} {oc_law_take kV_law_take dc_law_take pm_law_take cd_law_take ct_law_take : Value}
    {od_law_cell an_law_cell : Option Addr} {sl_law_cell : Array (Option Value)} {oc_law_cell kV_law_cell dc_law_cell pm_law_cell cd_law_cell ct_law_cell : Value}
    {od_law_word an_law_word : Option Addr} {sl_law_word : Array (Option Value)} {oc_law_word kV_law_word dc_law_word pm_law_word cd_law_word ct_law_word : Value}
    {od_law_some_word an_law_some_word : Option Addr} {sl_law_some_word : Array (Option Value)} {oc_law_some_word kV_law_some_word dc_law_some_word pm_law_some_word cd_law_some_word ct_law_some_word : Value}
    {od_law_reserved an_law_reserved : Option Addr} {sl_law_reserved : Array (Option Value)} {oc_law_reserved kV_law_reserved dc_law_reserved pm_law_reserved cd_law_reserved ct_law_reserved : Value}
    {od_law_name an_law_name : Option Addr} {sl_law_name : Array (Option Value)} {oc_law_name kV_law_name dc_law_name pm_law_name cd_law_name ct_law_name : Value}
    {od_law_names an_law_names : Option Addr} {sl_law_names : Array (Option Value)} {oc_law_names kV_law_names dc_law_names pm_law_names cd_law_names ct_law_names : Value}
    {od_law_same an_law_same : Option Addr} {sl_law_same : Array (Option Value)} {oc_law_same kV_law_same dc_law_same pm_law_same cd_law_same ct_law_same : Value}
    {od_law_number an_law_number : Option Addr} {sl_law_number : Array (Option Value)} {oc_law_number kV_law_number dc_law_number pm_law_number cd_law_number ct_law_number : Value}
    {od_law_leaf an_law_leaf : Option Addr} {sl_law_leaf : Array (Option Value)} {oc_law_leaf kV_law_leaf dc_law_leaf pm_law_leaf cd_law_leaf ct_law_leaf : Value}
    {od_law_expression an_law_expression : Option Addr} {sl_law_expression : Array (Option Value)} {oc_law_expression kV_law_expression dc_law_expression pm_law_expression cd_law_expression ct_law_expression : Value}
    {od_law_test an_law_test : Option Addr} {sl_law_test : Array (Option Value)} {oc_law_test kV_law_test dc_law_test pm_law_test cd_law_test ct_law_test : Value}
    {od_law_inner an_law_inner : Option Addr} {sl_law_inner : Array (Option Value)} {oc_law_inner kV_law_inner dc_law_inner pm_law_inner cd_law_inner ct_law_inner : Value}
    {od_law_depth an_law_depth : Option Addr} {sl_law_depth : Array (Option Value)} {oc_law_depth kV_law_depth dc_law_depth pm_law_depth cd_law_depth ct_law_depth : Value}
    {od_law_is_test an_law_is_test : Option Addr} {sl_law_is_test : Array (Option Value)} {oc_law_is_test kV_law_is_test dc_law_is_test pm_law_is_test cd_law_is_test ct_law_is_test : Value}
    {od_law_around an_law_around : Option Addr} {sl_law_around : Array (Option Value)} {oc_law_around kV_law_around dc_law_around pm_law_around cd_law_around ct_law_around : Value}
    {od_law_many an_law_many : Option Addr} {sl_law_many : Array (Option Value)} {oc_law_many kV_law_many dc_law_many pm_law_many cd_law_many ct_law_many : Value}
    {od_law_great an_law_great : Option Addr} {sl_law_great : Array (Option Value)} {oc_law_great kV_law_great dc_law_great pm_law_great cd_law_great ct_law_great : Value}
    {od_law_tokens an_law_tokens : Option Addr} {sl_law_tokens : Array (Option Value)} {oc_law_tokens kV_law_tokens dc_law_tokens pm_law_tokens cd_law_tokens ct_law_tokens : Value}
    {od_law_written an_law_written : Option Addr} {sl_law_written : Array (Option Value)} {oc_law_written kV_law_written dc_law_written pm_law_written cd_law_written ct_law_written : Value}
    {od_law_text_item an_law_text_item : Option Addr} {sl_law_text_item : Array (Option Value)} {oc_law_text_item kV_law_text_item dc_law_text_item pm_law_text_item cd_law_text_item ct_law_text_item : Value}
    {od_law_spaced an_law_spaced : Option Addr} {sl_law_spaced : Array (Option Value)} {oc_law_spaced kV_law_spaced dc_law_spaced pm_law_spaced cd_law_spaced ct_law_spaced : Value}
    {od_law_pattern an_law_pattern : Option Addr} {sl_law_pattern : Array (Option Value)} {oc_law_pattern kV_law_pattern dc_law_pattern pm_law_pattern cd_law_pattern ct_law_pattern : Value}
    {od_law_read an_law_read : Option Addr} {sl_law_read : Array (Option Value)} {oc_law_read kV_law_read dc_law_read pm_law_read cd_law_read ct_law_read : Value}
    {od_law_again an_law_again : Option Addr} {sl_law_again : Array (Option Value)} {oc_law_again kV_law_again dc_law_again pm_law_again cd_law_again ct_law_again : Value}
    {odlaw anlaw : Option Addr} {sllaw : Array (Option Value)} {oclaw kVlaw dclaw pmlaw cdlaw ctlaw : Value}
    {u_LETTERS : Value}
    {u_DIGITS : Value}
    {u_MOST_DIGITS : Value}
    {c_WORDS : Addr}
    {u_MOST_DEPTH : Value}
    {c_EXPRESSION_PARTS : Addr} {e_EXPRESSION_PARTS : Array DictEntry} {n_EXPRESSION_PARTS : Nat} {t0_EXPRESSION_PARTS t1_EXPRESSION_PARTS t2_EXPRESSION_PARTS t3_EXPRESSION_PARTS t4_EXPRESSION_PARTS t5_EXPRESSION_PARTS t6_EXPRESSION_PARTS t7_EXPRESSION_PARTS t8_EXPRESSION_PARTS : Addr}
    {c_CONDITION_PARTS : Addr} {e_CONDITION_PARTS : Array DictEntry} {n_CONDITION_PARTS : Nat} {t0_CONDITION_PARTS t1_CONDITION_PARTS t2_CONDITION_PARTS : Addr}
    (arun_end : PySem.W.nsIn K mainGlobals "run_end" = some (some (.ref frun_end))) (lrun_end : K.lookup frun_end = some ⟨ocrun_end, odrun_end, .func (PySem.W.fnOf "run_end" "run_end" (defArgs srun_end) (defBody srun_end) (defScope srun_end) .none kVrun_end dcrun_end pmrun_end anrun_end cdrun_end ctrun_end), slrun_end⟩) (crun_end : PySem.W.codeIn K cdrun_end "run_end" = true) (krun_end : PySem.W.keepIn K (.ref frun_end) = true)
    (ais_name : PySem.W.nsIn K mainGlobals "is_name" = some (some (.ref fis_name))) (lis_name : K.lookup fis_name = some ⟨ocis_name, odis_name, .func (PySem.W.fnOf "is_name" "is_name" (defArgs sis_name) (defBody sis_name) (defScope sis_name) .none kVis_name dcis_name pmis_name anis_name cdis_name ctis_name), slis_name⟩) (cis_name : PySem.W.codeIn K cdis_name "is_name" = true) (kis_name : PySem.W.keepIn K (.ref fis_name) = true)
    (ais_integer : PySem.W.nsIn K mainGlobals "is_integer" = some (some (.ref fis_integer))) (lis_integer : K.lookup fis_integer = some ⟨ocis_integer, odis_integer, .func (PySem.W.fnOf "is_integer" "is_integer" (defArgs sis_integer) (defBody sis_integer) (defScope sis_integer) .none kVis_integer dcis_integer pmis_integer anis_integer cdis_integer ctis_integer), slis_integer⟩) (cis_integer : PySem.W.codeIn K cdis_integer "is_integer" = true) (kis_integer : PySem.W.keepIn K (.ref fis_integer) = true)
    (aparts_in : PySem.W.nsIn K mainGlobals "parts_in" = some (some (.ref fparts_in))) (lparts_in : K.lookup fparts_in = some ⟨ocparts_in, odparts_in, .func (PySem.W.fnOf "parts_in" "parts_in" (defArgs sparts_in) (defBody sparts_in) (defScope sparts_in) .none kVparts_in dcparts_in pmparts_in anparts_in cdparts_in ctparts_in), slparts_in⟩) (cparts_in : PySem.W.codeIn K cdparts_in "parts_in" = true) (kparts_in : PySem.W.keepIn K (.ref fparts_in) = true)
    (atokens_of : PySem.W.nsIn K mainGlobals "tokens_of" = some (some (.ref ftokens_of))) (ltokens_of : K.lookup ftokens_of = some ⟨octokens_of, odtokens_of, .func (PySem.W.fnOf "tokens_of" "tokens_of" (defArgs stokens_of) (defBody stokens_of) (defScope stokens_of) .none kVtokens_of dctokens_of pmtokens_of antokens_of cdtokens_of cttokens_of), sltokens_of⟩) (ctokens_of : PySem.W.codeIn K cdtokens_of "tokens_of" = true) (ktokens_of : PySem.W.keepIn K (.ref ftokens_of) = true)
    (a_piece_end : PySem.W.nsIn K mainGlobals "_piece_end" = some (some (.ref f_piece_end))) (l_piece_end : K.lookup f_piece_end = some ⟨oc_piece_end, od_piece_end, .func (PySem.W.fnOf "_piece_end" "_piece_end" (defArgs s_piece_end) (defBody s_piece_end) (defScope s_piece_end) .none kV_piece_end dc_piece_end pm_piece_end an_piece_end cd_piece_end ct_piece_end), sl_piece_end⟩) (c_piece_end : PySem.W.codeIn K cd_piece_end "_piece_end" = true) (k_piece_end : PySem.W.keepIn K (.ref f_piece_end) = true)
    (aread_whole : PySem.W.nsIn K mainGlobals "read_whole" = some (some (.ref fread_whole))) (lread_whole : K.lookup fread_whole = some ⟨ocread_whole, odread_whole, .func (PySem.W.fnOf "read_whole" "read_whole" (defArgs sread_whole) (defBody sread_whole) (defScope sread_whole) .none kVread_whole dcread_whole pmread_whole anread_whole cdread_whole ctread_whole), slread_whole⟩) (cread_whole : PySem.W.codeIn K cdread_whole "read_whole" = true) (kread_whole : PySem.W.keepIn K (.ref fread_whole) = true)
    (a_pass_token : PySem.W.nsIn K mainGlobals "_pass_token" = some (some (.ref f_pass_token))) (l_pass_token : K.lookup f_pass_token = some ⟨oc_pass_token, od_pass_token, .func (PySem.W.fnOf "_pass_token" "_pass_token" (defArgs s_pass_token) (defBody s_pass_token) (defScope s_pass_token) .none kV_pass_token dc_pass_token pm_pass_token an_pass_token cd_pass_token ct_pass_token), sl_pass_token⟩) (c_pass_token : PySem.W.codeIn K cd_pass_token "_pass_token" = true) (k_pass_token : PySem.W.keepIn K (.ref f_pass_token) = true)
    (a_read_part : PySem.W.nsIn K mainGlobals "_read_part" = some (some (.ref f_read_part))) (l_read_part : K.lookup f_read_part = some ⟨oc_read_part, od_read_part, .func (PySem.W.fnOf "_read_part" "_read_part" (defArgs s_read_part) (defBody s_read_part) (defScope s_read_part) .none kV_read_part dc_read_part pm_read_part an_read_part cd_read_part ct_read_part), sl_read_part⟩) (c_read_part : PySem.W.codeIn K cd_read_part "_read_part" = true) (k_read_part : PySem.W.keepIn K (.ref f_read_part) = true)
    (a_read_divisor : PySem.W.nsIn K mainGlobals "_read_divisor" = some (some (.ref f_read_divisor))) (l_read_divisor : K.lookup f_read_divisor = some ⟨oc_read_divisor, od_read_divisor, .func (PySem.W.fnOf "_read_divisor" "_read_divisor" (defArgs s_read_divisor) (defBody s_read_divisor) (defScope s_read_divisor) .none kV_read_divisor dc_read_divisor pm_read_divisor an_read_divisor cd_read_divisor ct_read_divisor), sl_read_divisor⟩) (c_read_divisor : PySem.W.codeIn K cd_read_divisor "_read_divisor" = true) (k_read_divisor : PySem.W.keepIn K (.ref f_read_divisor) = true)
    (a_read_expression : PySem.W.nsIn K mainGlobals "_read_expression" = some (some (.ref f_read_expression))) (l_read_expression : K.lookup f_read_expression = some ⟨oc_read_expression, od_read_expression, .func (PySem.W.fnOf "_read_expression" "_read_expression" (defArgs s_read_expression) (defBody s_read_expression) (defScope s_read_expression) .none kV_read_expression dc_read_expression pm_read_expression an_read_expression cd_read_expression ct_read_expression), sl_read_expression⟩) (c_read_expression : PySem.W.codeIn K cd_read_expression "_read_expression" = true) (k_read_expression : PySem.W.keepIn K (.ref f_read_expression) = true)
    (a_read_condition : PySem.W.nsIn K mainGlobals "_read_condition" = some (some (.ref f_read_condition))) (l_read_condition : K.lookup f_read_condition = some ⟨oc_read_condition, od_read_condition, .func (PySem.W.fnOf "_read_condition" "_read_condition" (defArgs s_read_condition) (defBody s_read_condition) (defScope s_read_condition) .none kV_read_condition dc_read_condition pm_read_condition an_read_condition cd_read_condition ct_read_condition), sl_read_condition⟩) (c_read_condition : PySem.W.codeIn K cd_read_condition "_read_condition" = true) (k_read_condition : PySem.W.keepIn K (.ref f_read_condition) = true)
    (a_read_parts : PySem.W.nsIn K mainGlobals "_read_parts" = some (some (.ref f_read_parts))) (l_read_parts : K.lookup f_read_parts = some ⟨oc_read_parts, od_read_parts, .func (PySem.W.fnOf "_read_parts" "_read_parts" (defArgs s_read_parts) (defBody s_read_parts) (defScope s_read_parts) .none kV_read_parts dc_read_parts pm_read_parts an_read_parts cd_read_parts ct_read_parts), sl_read_parts⟩) (c_read_parts : PySem.W.codeIn K cd_read_parts "_read_parts" = true) (k_read_parts : PySem.W.keepIn K (.ref f_read_parts) = true)
    (a_read_conditions : PySem.W.nsIn K mainGlobals "_read_conditions" = some (some (.ref f_read_conditions))) (l_read_conditions : K.lookup f_read_conditions = some ⟨oc_read_conditions, od_read_conditions, .func (PySem.W.fnOf "_read_conditions" "_read_conditions" (defArgs s_read_conditions) (defBody s_read_conditions) (defScope s_read_conditions) .none kV_read_conditions dc_read_conditions pm_read_conditions an_read_conditions cd_read_conditions ct_read_conditions), sl_read_conditions⟩) (c_read_conditions : PySem.W.codeIn K cd_read_conditions "_read_conditions" = true) (k_read_conditions : PySem.W.keepIn K (.ref f_read_conditions) = true)
    (awrite_expression : PySem.W.nsIn K mainGlobals "write_expression" = some (some (.ref fwrite_expression))) (lwrite_expression : K.lookup fwrite_expression = some ⟨ocwrite_expression, odwrite_expression, .func (PySem.W.fnOf "write_expression" "write_expression" (defArgs swrite_expression) (defBody swrite_expression) (defScope swrite_expression) .none kVwrite_expression dcwrite_expression pmwrite_expression anwrite_expression cdwrite_expression ctwrite_expression), slwrite_expression⟩) (cwrite_expression : PySem.W.codeIn K cdwrite_expression "write_expression" = true) (kwrite_expression : PySem.W.keepIn K (.ref fwrite_expression) = true)
    (awrite_condition : PySem.W.nsIn K mainGlobals "write_condition" = some (some (.ref fwrite_condition))) (lwrite_condition : K.lookup fwrite_condition = some ⟨ocwrite_condition, odwrite_condition, .func (PySem.W.fnOf "write_condition" "write_condition" (defArgs swrite_condition) (defBody swrite_condition) (defScope swrite_condition) .none kVwrite_condition dcwrite_condition pmwrite_condition anwrite_condition cdwrite_condition ctwrite_condition), slwrite_condition⟩) (cwrite_condition : PySem.W.codeIn K cdwrite_condition "write_condition" = true) (kwrite_condition : PySem.W.keepIn K (.ref fwrite_condition) = true)
    (a_written : PySem.W.nsIn K mainGlobals "_written" = some (some (.ref f_written))) (l_written : K.lookup f_written = some ⟨oc_written, od_written, .func (PySem.W.fnOf "_written" "_written" (defArgs s_written) (defBody s_written) (defScope s_written) .none kV_written dc_written pm_written an_written cd_written ct_written), sl_written⟩) (c_written : PySem.W.codeIn K cd_written "_written" = true) (k_written : PySem.W.keepIn K (.ref f_written) = true)
    (aread_expression : PySem.W.nsIn K mainGlobals "read_expression" = some (some (.ref fread_expression))) (lread_expression : K.lookup fread_expression = some ⟨ocread_expression, odread_expression, .func (PySem.W.fnOf "read_expression" "read_expression" (defArgs sread_expression) (defBody sread_expression) (defScope sread_expression) .none kVread_expression dcread_expression pmread_expression anread_expression cdread_expression ctread_expression), slread_expression⟩) (cread_expression : PySem.W.codeIn K cdread_expression "read_expression" = true) (kread_expression : PySem.W.keepIn K (.ref fread_expression) = true)
    (aread_condition : PySem.W.nsIn K mainGlobals "read_condition" = some (some (.ref fread_condition))) (lread_condition : K.lookup fread_condition = some ⟨ocread_condition, odread_condition, .func (PySem.W.fnOf "read_condition" "read_condition" (defArgs sread_condition) (defBody sread_condition) (defScope sread_condition) .none kVread_condition dcread_condition pmread_condition anread_condition cdread_condition ctread_condition), slread_condition⟩) (cread_condition : PySem.W.codeIn K cdread_condition "read_condition" = true) (kread_condition : PySem.W.keepIn K (.ref fread_condition) = true)
    (a_law_draws : PySem.W.nsIn K mainGlobals "_law_draws" = some (some (.ref f_law_draws))) (l_law_draws : K.lookup f_law_draws = some ⟨oc_law_draws, od_law_draws, .func (PySem.W.fnOf "_law_draws" "_law_draws" (defArgs s_law_draws) (defBody s_law_draws) (defScope s_law_draws) .none kV_law_draws dc_law_draws pm_law_draws an_law_draws cd_law_draws ct_law_draws), sl_law_draws⟩) (c_law_draws : PySem.W.codeIn K cd_law_draws "_law_draws" = true) (k_law_draws : PySem.W.keepIn K (.ref f_law_draws) = true)
    (a_law_take : PySem.W.nsIn K mainGlobals "_law_take" = some (some (.ref f_law_take))) (l_law_take : K.lookup f_law_take = some ⟨oc_law_take, od_law_take, .func (PySem.W.fnOf "_law_take" "_law_take" (defArgs s_law_take) (defBody s_law_take) (defScope s_law_take) .none kV_law_take dc_law_take pm_law_take an_law_take cd_law_take ct_law_take), sl_law_take⟩) (c_law_take : PySem.W.codeIn K cd_law_take "_law_take" = true) (k_law_take : PySem.W.keepIn K (.ref f_law_take) = true)
    (a_law_cell : PySem.W.nsIn K mainGlobals "_law_cell" = some (some (.ref f_law_cell))) (l_law_cell : K.lookup f_law_cell = some ⟨oc_law_cell, od_law_cell, .func (PySem.W.fnOf "_law_cell" "_law_cell" (defArgs s_law_cell) (defBody s_law_cell) (defScope s_law_cell) .none kV_law_cell dc_law_cell pm_law_cell an_law_cell cd_law_cell ct_law_cell), sl_law_cell⟩) (c_law_cell : PySem.W.codeIn K cd_law_cell "_law_cell" = true) (k_law_cell : PySem.W.keepIn K (.ref f_law_cell) = true)
    (a_law_word : PySem.W.nsIn K mainGlobals "_law_word" = some (some (.ref f_law_word))) (l_law_word : K.lookup f_law_word = some ⟨oc_law_word, od_law_word, .func (PySem.W.fnOf "_law_word" "_law_word" (defArgs s_law_word) (defBody s_law_word) (defScope s_law_word) .none kV_law_word dc_law_word pm_law_word an_law_word cd_law_word ct_law_word), sl_law_word⟩) (c_law_word : PySem.W.codeIn K cd_law_word "_law_word" = true) (k_law_word : PySem.W.keepIn K (.ref f_law_word) = true)
    (a_law_some_word : PySem.W.nsIn K mainGlobals "_law_some_word" = some (some (.ref f_law_some_word))) (l_law_some_word : K.lookup f_law_some_word = some ⟨oc_law_some_word, od_law_some_word, .func (PySem.W.fnOf "_law_some_word" "_law_some_word" (defArgs s_law_some_word) (defBody s_law_some_word) (defScope s_law_some_word) .none kV_law_some_word dc_law_some_word pm_law_some_word an_law_some_word cd_law_some_word ct_law_some_word), sl_law_some_word⟩) (c_law_some_word : PySem.W.codeIn K cd_law_some_word "_law_some_word" = true) (k_law_some_word : PySem.W.keepIn K (.ref f_law_some_word) = true)
    (a_law_reserved : PySem.W.nsIn K mainGlobals "_law_reserved" = some (some (.ref f_law_reserved))) (l_law_reserved : K.lookup f_law_reserved = some ⟨oc_law_reserved, od_law_reserved, .func (PySem.W.fnOf "_law_reserved" "_law_reserved" (defArgs s_law_reserved) (defBody s_law_reserved) (defScope s_law_reserved) .none kV_law_reserved dc_law_reserved pm_law_reserved an_law_reserved cd_law_reserved ct_law_reserved), sl_law_reserved⟩) (c_law_reserved : PySem.W.codeIn K cd_law_reserved "_law_reserved" = true) (k_law_reserved : PySem.W.keepIn K (.ref f_law_reserved) = true)
    (a_law_name : PySem.W.nsIn K mainGlobals "_law_name" = some (some (.ref f_law_name))) (l_law_name : K.lookup f_law_name = some ⟨oc_law_name, od_law_name, .func (PySem.W.fnOf "_law_name" "_law_name" (defArgs s_law_name) (defBody s_law_name) (defScope s_law_name) .none kV_law_name dc_law_name pm_law_name an_law_name cd_law_name ct_law_name), sl_law_name⟩) (c_law_name : PySem.W.codeIn K cd_law_name "_law_name" = true) (k_law_name : PySem.W.keepIn K (.ref f_law_name) = true)
    (a_law_names : PySem.W.nsIn K mainGlobals "_law_names" = some (some (.ref f_law_names))) (l_law_names : K.lookup f_law_names = some ⟨oc_law_names, od_law_names, .func (PySem.W.fnOf "_law_names" "_law_names" (defArgs s_law_names) (defBody s_law_names) (defScope s_law_names) .none kV_law_names dc_law_names pm_law_names an_law_names cd_law_names ct_law_names), sl_law_names⟩) (c_law_names : PySem.W.codeIn K cd_law_names "_law_names" = true) (k_law_names : PySem.W.keepIn K (.ref f_law_names) = true)
    (a_law_same : PySem.W.nsIn K mainGlobals "_law_same" = some (some (.ref f_law_same))) (l_law_same : K.lookup f_law_same = some ⟨oc_law_same, od_law_same, .func (PySem.W.fnOf "_law_same" "_law_same" (defArgs s_law_same) (defBody s_law_same) (defScope s_law_same) .none kV_law_same dc_law_same pm_law_same an_law_same cd_law_same ct_law_same), sl_law_same⟩) (c_law_same : PySem.W.codeIn K cd_law_same "_law_same" = true) (k_law_same : PySem.W.keepIn K (.ref f_law_same) = true)
    (a_law_number : PySem.W.nsIn K mainGlobals "_law_number" = some (some (.ref f_law_number))) (l_law_number : K.lookup f_law_number = some ⟨oc_law_number, od_law_number, .func (PySem.W.fnOf "_law_number" "_law_number" (defArgs s_law_number) (defBody s_law_number) (defScope s_law_number) .none kV_law_number dc_law_number pm_law_number an_law_number cd_law_number ct_law_number), sl_law_number⟩) (c_law_number : PySem.W.codeIn K cd_law_number "_law_number" = true) (k_law_number : PySem.W.keepIn K (.ref f_law_number) = true)
    (a_law_leaf : PySem.W.nsIn K mainGlobals "_law_leaf" = some (some (.ref f_law_leaf))) (l_law_leaf : K.lookup f_law_leaf = some ⟨oc_law_leaf, od_law_leaf, .func (PySem.W.fnOf "_law_leaf" "_law_leaf" (defArgs s_law_leaf) (defBody s_law_leaf) (defScope s_law_leaf) .none kV_law_leaf dc_law_leaf pm_law_leaf an_law_leaf cd_law_leaf ct_law_leaf), sl_law_leaf⟩) (c_law_leaf : PySem.W.codeIn K cd_law_leaf "_law_leaf" = true) (k_law_leaf : PySem.W.keepIn K (.ref f_law_leaf) = true)
    (a_law_expression : PySem.W.nsIn K mainGlobals "_law_expression" = some (some (.ref f_law_expression))) (l_law_expression : K.lookup f_law_expression = some ⟨oc_law_expression, od_law_expression, .func (PySem.W.fnOf "_law_expression" "_law_expression" (defArgs s_law_expression) (defBody s_law_expression) (defScope s_law_expression) .none kV_law_expression dc_law_expression pm_law_expression an_law_expression cd_law_expression ct_law_expression), sl_law_expression⟩) (c_law_expression : PySem.W.codeIn K cd_law_expression "_law_expression" = true) (k_law_expression : PySem.W.keepIn K (.ref f_law_expression) = true)
    (a_law_test : PySem.W.nsIn K mainGlobals "_law_test" = some (some (.ref f_law_test))) (l_law_test : K.lookup f_law_test = some ⟨oc_law_test, od_law_test, .func (PySem.W.fnOf "_law_test" "_law_test" (defArgs s_law_test) (defBody s_law_test) (defScope s_law_test) .none kV_law_test dc_law_test pm_law_test an_law_test cd_law_test ct_law_test), sl_law_test⟩) (c_law_test : PySem.W.codeIn K cd_law_test "_law_test" = true) (k_law_test : PySem.W.keepIn K (.ref f_law_test) = true)
    (a_law_inner : PySem.W.nsIn K mainGlobals "_law_inner" = some (some (.ref f_law_inner))) (l_law_inner : K.lookup f_law_inner = some ⟨oc_law_inner, od_law_inner, .func (PySem.W.fnOf "_law_inner" "_law_inner" (defArgs s_law_inner) (defBody s_law_inner) (defScope s_law_inner) .none kV_law_inner dc_law_inner pm_law_inner an_law_inner cd_law_inner ct_law_inner), sl_law_inner⟩) (c_law_inner : PySem.W.codeIn K cd_law_inner "_law_inner" = true) (k_law_inner : PySem.W.keepIn K (.ref f_law_inner) = true)
    (a_law_depth : PySem.W.nsIn K mainGlobals "_law_depth" = some (some (.ref f_law_depth))) (l_law_depth : K.lookup f_law_depth = some ⟨oc_law_depth, od_law_depth, .func (PySem.W.fnOf "_law_depth" "_law_depth" (defArgs s_law_depth) (defBody s_law_depth) (defScope s_law_depth) .none kV_law_depth dc_law_depth pm_law_depth an_law_depth cd_law_depth ct_law_depth), sl_law_depth⟩) (c_law_depth : PySem.W.codeIn K cd_law_depth "_law_depth" = true) (k_law_depth : PySem.W.keepIn K (.ref f_law_depth) = true)
    (a_law_is_test : PySem.W.nsIn K mainGlobals "_law_is_test" = some (some (.ref f_law_is_test))) (l_law_is_test : K.lookup f_law_is_test = some ⟨oc_law_is_test, od_law_is_test, .func (PySem.W.fnOf "_law_is_test" "_law_is_test" (defArgs s_law_is_test) (defBody s_law_is_test) (defScope s_law_is_test) .none kV_law_is_test dc_law_is_test pm_law_is_test an_law_is_test cd_law_is_test ct_law_is_test), sl_law_is_test⟩) (c_law_is_test : PySem.W.codeIn K cd_law_is_test "_law_is_test" = true) (k_law_is_test : PySem.W.keepIn K (.ref f_law_is_test) = true)
    (a_law_around : PySem.W.nsIn K mainGlobals "_law_around" = some (some (.ref f_law_around))) (l_law_around : K.lookup f_law_around = some ⟨oc_law_around, od_law_around, .func (PySem.W.fnOf "_law_around" "_law_around" (defArgs s_law_around) (defBody s_law_around) (defScope s_law_around) .none kV_law_around dc_law_around pm_law_around an_law_around cd_law_around ct_law_around), sl_law_around⟩) (c_law_around : PySem.W.codeIn K cd_law_around "_law_around" = true) (k_law_around : PySem.W.keepIn K (.ref f_law_around) = true)
    (a_law_many : PySem.W.nsIn K mainGlobals "_law_many" = some (some (.ref f_law_many))) (l_law_many : K.lookup f_law_many = some ⟨oc_law_many, od_law_many, .func (PySem.W.fnOf "_law_many" "_law_many" (defArgs s_law_many) (defBody s_law_many) (defScope s_law_many) .none kV_law_many dc_law_many pm_law_many an_law_many cd_law_many ct_law_many), sl_law_many⟩) (c_law_many : PySem.W.codeIn K cd_law_many "_law_many" = true) (k_law_many : PySem.W.keepIn K (.ref f_law_many) = true)
    (a_law_great : PySem.W.nsIn K mainGlobals "_law_great" = some (some (.ref f_law_great))) (l_law_great : K.lookup f_law_great = some ⟨oc_law_great, od_law_great, .func (PySem.W.fnOf "_law_great" "_law_great" (defArgs s_law_great) (defBody s_law_great) (defScope s_law_great) .none kV_law_great dc_law_great pm_law_great an_law_great cd_law_great ct_law_great), sl_law_great⟩) (c_law_great : PySem.W.codeIn K cd_law_great "_law_great" = true) (k_law_great : PySem.W.keepIn K (.ref f_law_great) = true)
    (a_law_tokens : PySem.W.nsIn K mainGlobals "_law_tokens" = some (some (.ref f_law_tokens))) (l_law_tokens : K.lookup f_law_tokens = some ⟨oc_law_tokens, od_law_tokens, .func (PySem.W.fnOf "_law_tokens" "_law_tokens" (defArgs s_law_tokens) (defBody s_law_tokens) (defScope s_law_tokens) .none kV_law_tokens dc_law_tokens pm_law_tokens an_law_tokens cd_law_tokens ct_law_tokens), sl_law_tokens⟩) (c_law_tokens : PySem.W.codeIn K cd_law_tokens "_law_tokens" = true) (k_law_tokens : PySem.W.keepIn K (.ref f_law_tokens) = true)
    (a_law_written : PySem.W.nsIn K mainGlobals "_law_written" = some (some (.ref f_law_written))) (l_law_written : K.lookup f_law_written = some ⟨oc_law_written, od_law_written, .func (PySem.W.fnOf "_law_written" "_law_written" (defArgs s_law_written) (defBody s_law_written) (defScope s_law_written) .none kV_law_written dc_law_written pm_law_written an_law_written cd_law_written ct_law_written), sl_law_written⟩) (c_law_written : PySem.W.codeIn K cd_law_written "_law_written" = true) (k_law_written : PySem.W.keepIn K (.ref f_law_written) = true)
    (a_law_text_item : PySem.W.nsIn K mainGlobals "_law_text_item" = some (some (.ref f_law_text_item))) (l_law_text_item : K.lookup f_law_text_item = some ⟨oc_law_text_item, od_law_text_item, .func (PySem.W.fnOf "_law_text_item" "_law_text_item" (defArgs s_law_text_item) (defBody s_law_text_item) (defScope s_law_text_item) .none kV_law_text_item dc_law_text_item pm_law_text_item an_law_text_item cd_law_text_item ct_law_text_item), sl_law_text_item⟩) (c_law_text_item : PySem.W.codeIn K cd_law_text_item "_law_text_item" = true) (k_law_text_item : PySem.W.keepIn K (.ref f_law_text_item) = true)
    (a_law_spaced : PySem.W.nsIn K mainGlobals "_law_spaced" = some (some (.ref f_law_spaced))) (l_law_spaced : K.lookup f_law_spaced = some ⟨oc_law_spaced, od_law_spaced, .func (PySem.W.fnOf "_law_spaced" "_law_spaced" (defArgs s_law_spaced) (defBody s_law_spaced) (defScope s_law_spaced) .none kV_law_spaced dc_law_spaced pm_law_spaced an_law_spaced cd_law_spaced ct_law_spaced), sl_law_spaced⟩) (c_law_spaced : PySem.W.codeIn K cd_law_spaced "_law_spaced" = true) (k_law_spaced : PySem.W.keepIn K (.ref f_law_spaced) = true)
    (a_law_pattern : PySem.W.nsIn K mainGlobals "_law_pattern" = some (some (.ref f_law_pattern))) (l_law_pattern : K.lookup f_law_pattern = some ⟨oc_law_pattern, od_law_pattern, .func (PySem.W.fnOf "_law_pattern" "_law_pattern" (defArgs s_law_pattern) (defBody s_law_pattern) (defScope s_law_pattern) .none kV_law_pattern dc_law_pattern pm_law_pattern an_law_pattern cd_law_pattern ct_law_pattern), sl_law_pattern⟩) (c_law_pattern : PySem.W.codeIn K cd_law_pattern "_law_pattern" = true) (k_law_pattern : PySem.W.keepIn K (.ref f_law_pattern) = true)
    (a_law_read : PySem.W.nsIn K mainGlobals "_law_read" = some (some (.ref f_law_read))) (l_law_read : K.lookup f_law_read = some ⟨oc_law_read, od_law_read, .func (PySem.W.fnOf "_law_read" "_law_read" (defArgs s_law_read) (defBody s_law_read) (defScope s_law_read) .none kV_law_read dc_law_read pm_law_read an_law_read cd_law_read ct_law_read), sl_law_read⟩) (c_law_read : PySem.W.codeIn K cd_law_read "_law_read" = true) (k_law_read : PySem.W.keepIn K (.ref f_law_read) = true)
    (a_law_again : PySem.W.nsIn K mainGlobals "_law_again" = some (some (.ref f_law_again))) (l_law_again : K.lookup f_law_again = some ⟨oc_law_again, od_law_again, .func (PySem.W.fnOf "_law_again" "_law_again" (defArgs s_law_again) (defBody s_law_again) (defScope s_law_again) .none kV_law_again dc_law_again pm_law_again an_law_again cd_law_again ct_law_again), sl_law_again⟩) (c_law_again : PySem.W.codeIn K cd_law_again "_law_again" = true) (k_law_again : PySem.W.keepIn K (.ref f_law_again) = true)
    (alaw : PySem.W.nsIn K mainGlobals "law" = some (some (.ref flaw))) (llaw : K.lookup flaw = some ⟨oclaw, odlaw, .func (PySem.W.fnOf "law" "law" (defArgs slaw) (defBody slaw) (defScope slaw) .none kVlaw dclaw pmlaw anlaw cdlaw ctlaw), sllaw⟩) (claw : PySem.W.codeIn K cdlaw "law" = true) (klaw : PySem.W.keepIn K (.ref flaw) = true)
    (g_LETTERS : PySem.W.nsIn K mainGlobals "LETTERS" = some (some u_LETTERS)) (r_LETTERS : L2.RelV (.str "abcdefghijklmnopqrstuvwxyz") u_LETTERS)
    (g_DIGITS : PySem.W.nsIn K mainGlobals "DIGITS" = some (some u_DIGITS)) (r_DIGITS : L2.RelV (.str "0123456789") u_DIGITS)
    (g_MOST_DIGITS : PySem.W.nsIn K mainGlobals "MOST_DIGITS" = some (some u_MOST_DIGITS)) (r_MOST_DIGITS : L2.RelV (.int 60) u_MOST_DIGITS)
    (g_WORDS : PySem.W.nsIn K mainGlobals "WORDS" = some (some (.ref c_WORDS))) (k_WORDS : KT K c_WORDS [(.str "true"), (.str "false"), (.str "add"), (.str "sub"), (.str "mul"), (.str "div"), (.str "mod"), (.str "min"), (.str "max"), (.str "abs"), (.str "if"), (.str "less"), (.str "equal"), (.str "not"), (.str "all"), (.str "any")])
    (g_MOST_DEPTH : PySem.W.nsIn K mainGlobals "MOST_DEPTH" = some (some u_MOST_DEPTH)) (r_MOST_DEPTH : L2.RelV (.int 12) u_MOST_DEPTH)
    (g_EXPRESSION_PARTS : PySem.W.nsIn K mainGlobals "EXPRESSION_PARTS" = some (some (.ref c_EXPRESSION_PARTS))) (d_EXPRESSION_PARTS : List.lookup c_EXPRESSION_PARTS K = some { cls := .type "dict", data := .dict e_EXPRESSION_PARTS n_EXPRESSION_PARTS }) (l_EXPRESSION_PARTS : PySem.W.KeysLit w.params e_EXPRESSION_PARTS.toList) (s_EXPRESSION_PARTS : (c_EXPRESSION_PARTS == sysModules) = false)
    (q0_EXPRESSION_PARTS : PySem.W.nsIn K c_EXPRESSION_PARTS "add" = some (some (.ref t0_EXPRESSION_PARTS))) (k0_EXPRESSION_PARTS : KT K t0_EXPRESSION_PARTS [(.str "expression"), (.str "expression")])
    (q1_EXPRESSION_PARTS : PySem.W.nsIn K c_EXPRESSION_PARTS "sub" = some (some (.ref t1_EXPRESSION_PARTS))) (k1_EXPRESSION_PARTS : KT K t1_EXPRESSION_PARTS [(.str "expression"), (.str "expression")])
    (q2_EXPRESSION_PARTS : PySem.W.nsIn K c_EXPRESSION_PARTS "mul" = some (some (.ref t2_EXPRESSION_PARTS))) (k2_EXPRESSION_PARTS : KT K t2_EXPRESSION_PARTS [(.str "expression"), (.str "expression")])
    (q3_EXPRESSION_PARTS : PySem.W.nsIn K c_EXPRESSION_PARTS "div" = some (some (.ref t3_EXPRESSION_PARTS))) (k3_EXPRESSION_PARTS : KT K t3_EXPRESSION_PARTS [(.str "expression"), (.str "divisor")])
    (q4_EXPRESSION_PARTS : PySem.W.nsIn K c_EXPRESSION_PARTS "mod" = some (some (.ref t4_EXPRESSION_PARTS))) (k4_EXPRESSION_PARTS : KT K t4_EXPRESSION_PARTS [(.str "expression"), (.str "divisor")])
    (q5_EXPRESSION_PARTS : PySem.W.nsIn K c_EXPRESSION_PARTS "min" = some (some (.ref t5_EXPRESSION_PARTS))) (k5_EXPRESSION_PARTS : KT K t5_EXPRESSION_PARTS [(.str "expression"), (.str "expression")])
    (q6_EXPRESSION_PARTS : PySem.W.nsIn K c_EXPRESSION_PARTS "max" = some (some (.ref t6_EXPRESSION_PARTS))) (k6_EXPRESSION_PARTS : KT K t6_EXPRESSION_PARTS [(.str "expression"), (.str "expression")])
    (q7_EXPRESSION_PARTS : PySem.W.nsIn K c_EXPRESSION_PARTS "abs" = some (some (.ref t7_EXPRESSION_PARTS))) (k7_EXPRESSION_PARTS : KT K t7_EXPRESSION_PARTS [(.str "expression")])
    (q8_EXPRESSION_PARTS : PySem.W.nsIn K c_EXPRESSION_PARTS "if" = some (some (.ref t8_EXPRESSION_PARTS))) (k8_EXPRESSION_PARTS : KT K t8_EXPRESSION_PARTS [(.str "condition"), (.str "expression"), (.str "expression")])
    (g_CONDITION_PARTS : PySem.W.nsIn K mainGlobals "CONDITION_PARTS" = some (some (.ref c_CONDITION_PARTS))) (d_CONDITION_PARTS : List.lookup c_CONDITION_PARTS K = some { cls := .type "dict", data := .dict e_CONDITION_PARTS n_CONDITION_PARTS }) (l_CONDITION_PARTS : PySem.W.KeysLit w.params e_CONDITION_PARTS.toList) (s_CONDITION_PARTS : (c_CONDITION_PARTS == sysModules) = false)
    (q0_CONDITION_PARTS : PySem.W.nsIn K c_CONDITION_PARTS "less" = some (some (.ref t0_CONDITION_PARTS))) (k0_CONDITION_PARTS : KT K t0_CONDITION_PARTS [(.str "expression"), (.str "expression")])
    (q1_CONDITION_PARTS : PySem.W.nsIn K c_CONDITION_PARTS "equal" = some (some (.ref t1_CONDITION_PARTS))) (k1_CONDITION_PARTS : KT K t1_CONDITION_PARTS [(.str "expression"), (.str "expression")])
    (q2_CONDITION_PARTS : PySem.W.nsIn K c_CONDITION_PARTS "not" = some (some (.ref t2_CONDITION_PARTS))) (k2_CONDITION_PARTS : KT K t2_CONDITION_PARTS [(.str "condition")])
    (z_abs : PySem.W.nsIn K mainGlobals "abs" = some none)
    (z_bool : PySem.W.nsIn K mainGlobals "bool" = some none)
    (z_int : PySem.W.nsIn K mainGlobals "int" = some none)
    (z_isinstance : PySem.W.nsIn K mainGlobals "isinstance" = some none)
    (z_len : PySem.W.nsIn K mainGlobals "len" = some none)
    (z_list : PySem.W.nsIn K mainGlobals "list" = some none)
    (z_max : PySem.W.nsIn K mainGlobals "max" = some none)
    (z_range : PySem.W.nsIn K mainGlobals "range" = some none)
    (z_str : PySem.W.nsIn K mainGlobals "str" = some none)
    (z_tuple : PySem.W.nsIn K mainGlobals "tuple" = some none)
    : ∃ fd : FuncData, (∀ (s : Shared) (v : Value), BindsTo s fd ⟨[v], []⟩ [("script", v)]) ∧ ∀ base : Heap, K.In base → base.Ns mainGlobals mg → FnOk l.prog w K mg base CX0 50 fa fd ["script"] (spLaw K) := by
  have e := hfa.symm.trans (PySem.W.mg_of X G alaw)
  cases e
  let T : Txt K mg := {
    z_abs := PySem.W.mg_none_of X G z_abs
    z_bool := PySem.W.mg_none_of X G z_bool
    z_int := PySem.W.mg_none_of X G z_int
    z_isinstance := PySem.W.mg_none_of X G z_isinstance
    z_len := PySem.W.mg_none_of X G z_len
    z_list := PySem.W.mg_none_of X G z_list
    z_max := PySem.W.mg_none_of X G z_max
    z_range := PySem.W.mg_none_of X G z_range
    z_str := PySem.W.mg_none_of X G z_str
    z_tuple := PySem.W.mg_none_of X G z_tuple
    u_LETTERS := u_LETTERS
    g_LETTERS := PySem.W.mg_of X G g_LETTERS
    r_LETTERS := r_LETTERS
    u_DIGITS := u_DIGITS
    g_DIGITS := PySem.W.mg_of X G g_DIGITS
    r_DIGITS := r_DIGITS
    u_MOST_DIGITS := u_MOST_DIGITS
    g_MOST_DIGITS := PySem.W.mg_of X G g_MOST_DIGITS
    r_MOST_DIGITS := r_MOST_DIGITS
    c_WORDS := c_WORDS
    g_WORDS := PySem.W.mg_of X G g_WORDS
    k_WORDS := k_WORDS
    u_MOST_DEPTH := u_MOST_DEPTH
    g_MOST_DEPTH := PySem.W.mg_of X G g_MOST_DEPTH
    r_MOST_DEPTH := r_MOST_DEPTH
    arun_end := frun_end
    drun_end := _
    Frun_end := fun_mk (st := srun_end) lrun_end crun_end krun_end
    mrun_end := PySem.W.mg_of X G arun_end
    ais_name := fis_name
    dis_name := _
    Fis_name := fun_mk (st := sis_name) lis_name cis_name kis_name
    mis_name := PySem.W.mg_of X G ais_name
    ais_integer := fis_integer
    dis_integer := _
    Fis_integer := fun_mk (st := sis_integer) lis_integer cis_integer kis_integer
    mis_integer := PySem.W.mg_of X G ais_integer
    aparts_in := fparts_in
    dparts_in := _
    Fparts_in := fun_mk (st := sparts_in) lparts_in cparts_in kparts_in
    mparts_in := PySem.W.mg_of X G aparts_in
    atokens_of := ftokens_of
    dtokens_of := _
    Ftokens_of := fun_mk (st := stokens_of) ltokens_of ctokens_of ktokens_of
    mtokens_of := PySem.W.mg_of X G atokens_of
    a_piece_end := f_piece_end
    d_piece_end := _
    F_piece_end := fun_mk (st := s_piece_end) l_piece_end c_piece_end k_piece_end
    m_piece_end := PySem.W.mg_of X G a_piece_end
    aread_whole := fread_whole
    dread_whole := _
    Fread_whole := fun_mk (st := sread_whole) lread_whole cread_whole kread_whole
    mread_whole := PySem.W.mg_of X G aread_whole
    a_pass_token := f_pass_token
    d_pass_token := _
    F_pass_token := fun_mk (st := s_pass_token) l_pass_token c_pass_token k_pass_token
    m_pass_token := PySem.W.mg_of X G a_pass_token
    a_read_part := f_read_part
    d_read_part := _
    F_read_part := fun_mk (st := s_read_part) l_read_part c_read_part k_read_part
    m_read_part := PySem.W.mg_of X G a_read_part
    a_read_divisor := f_read_divisor
    d_read_divisor := _
    F_read_divisor := fun_mk (st := s_read_divisor) l_read_divisor c_read_divisor k_read_divisor
    m_read_divisor := PySem.W.mg_of X G a_read_divisor
    a_read_expression := f_read_expression
    d_read_expression := _
    F_read_expression := fun_mk (st := s_read_expression) l_read_expression c_read_expression k_read_expression
    m_read_expression := PySem.W.mg_of X G a_read_expression
    a_read_condition := f_read_condition
    d_read_condition := _
    F_read_condition := fun_mk (st := s_read_condition) l_read_condition c_read_condition k_read_condition
    m_read_condition := PySem.W.mg_of X G a_read_condition
    a_read_parts := f_read_parts
    d_read_parts := _
    F_read_parts := fun_mk (st := s_read_parts) l_read_parts c_read_parts k_read_parts
    m_read_parts := PySem.W.mg_of X G a_read_parts
    a_read_conditions := f_read_conditions
    d_read_conditions := _
    F_read_conditions := fun_mk (st := s_read_conditions) l_read_conditions c_read_conditions k_read_conditions
    m_read_conditions := PySem.W.mg_of X G a_read_conditions
    awrite_expression := fwrite_expression
    dwrite_expression := _
    Fwrite_expression := fun_mk (st := swrite_expression) lwrite_expression cwrite_expression kwrite_expression
    mwrite_expression := PySem.W.mg_of X G awrite_expression
    awrite_condition := fwrite_condition
    dwrite_condition := _
    Fwrite_condition := fun_mk (st := swrite_condition) lwrite_condition cwrite_condition kwrite_condition
    mwrite_condition := PySem.W.mg_of X G awrite_condition
    a_written := f_written
    d_written := _
    F_written := fun_mk (st := s_written) l_written c_written k_written
    m_written := PySem.W.mg_of X G a_written
    aread_expression := fread_expression
    dread_expression := _
    Fread_expression := fun_mk (st := sread_expression) lread_expression cread_expression kread_expression
    mread_expression := PySem.W.mg_of X G aread_expression
    aread_condition := fread_condition
    dread_condition := _
    Fread_condition := fun_mk (st := sread_condition) lread_condition cread_condition kread_condition
    mread_condition := PySem.W.mg_of X G aread_condition
    a_law_draws := f_law_draws
    d_law_draws := _
    F_law_draws := fun_mk (st := s_law_draws) l_law_draws c_law_draws k_law_draws
    m_law_draws := PySem.W.mg_of X G a_law_draws
    a_law_take := f_law_take
    d_law_take := _
    F_law_take := fun_mk (st := s_law_take) l_law_take c_law_take k_law_take
    m_law_take := PySem.W.mg_of X G a_law_take
    a_law_cell := f_law_cell
    d_law_cell := _
    F_law_cell := fun_mk (st := s_law_cell) l_law_cell c_law_cell k_law_cell
    m_law_cell := PySem.W.mg_of X G a_law_cell
    a_law_word := f_law_word
    d_law_word := _
    F_law_word := fun_mk (st := s_law_word) l_law_word c_law_word k_law_word
    m_law_word := PySem.W.mg_of X G a_law_word
    a_law_some_word := f_law_some_word
    d_law_some_word := _
    F_law_some_word := fun_mk (st := s_law_some_word) l_law_some_word c_law_some_word k_law_some_word
    m_law_some_word := PySem.W.mg_of X G a_law_some_word
    a_law_reserved := f_law_reserved
    d_law_reserved := _
    F_law_reserved := fun_mk (st := s_law_reserved) l_law_reserved c_law_reserved k_law_reserved
    m_law_reserved := PySem.W.mg_of X G a_law_reserved
    a_law_name := f_law_name
    d_law_name := _
    F_law_name := fun_mk (st := s_law_name) l_law_name c_law_name k_law_name
    m_law_name := PySem.W.mg_of X G a_law_name
    a_law_names := f_law_names
    d_law_names := _
    F_law_names := fun_mk (st := s_law_names) l_law_names c_law_names k_law_names
    m_law_names := PySem.W.mg_of X G a_law_names
    a_law_same := f_law_same
    d_law_same := _
    F_law_same := fun_mk (st := s_law_same) l_law_same c_law_same k_law_same
    m_law_same := PySem.W.mg_of X G a_law_same
    a_law_number := f_law_number
    d_law_number := _
    F_law_number := fun_mk (st := s_law_number) l_law_number c_law_number k_law_number
    m_law_number := PySem.W.mg_of X G a_law_number
    a_law_leaf := f_law_leaf
    d_law_leaf := _
    F_law_leaf := fun_mk (st := s_law_leaf) l_law_leaf c_law_leaf k_law_leaf
    m_law_leaf := PySem.W.mg_of X G a_law_leaf
    a_law_expression := f_law_expression
    d_law_expression := _
    F_law_expression := fun_mk (st := s_law_expression) l_law_expression c_law_expression k_law_expression
    m_law_expression := PySem.W.mg_of X G a_law_expression
    a_law_test := f_law_test
    d_law_test := _
    F_law_test := fun_mk (st := s_law_test) l_law_test c_law_test k_law_test
    m_law_test := PySem.W.mg_of X G a_law_test
    a_law_inner := f_law_inner
    d_law_inner := _
    F_law_inner := fun_mk (st := s_law_inner) l_law_inner c_law_inner k_law_inner
    m_law_inner := PySem.W.mg_of X G a_law_inner
    a_law_depth := f_law_depth
    d_law_depth := _
    F_law_depth := fun_mk (st := s_law_depth) l_law_depth c_law_depth k_law_depth
    m_law_depth := PySem.W.mg_of X G a_law_depth
    a_law_is_test := f_law_is_test
    d_law_is_test := _
    F_law_is_test := fun_mk (st := s_law_is_test) l_law_is_test c_law_is_test k_law_is_test
    m_law_is_test := PySem.W.mg_of X G a_law_is_test
    a_law_around := f_law_around
    d_law_around := _
    F_law_around := fun_mk (st := s_law_around) l_law_around c_law_around k_law_around
    m_law_around := PySem.W.mg_of X G a_law_around
    a_law_many := f_law_many
    d_law_many := _
    F_law_many := fun_mk (st := s_law_many) l_law_many c_law_many k_law_many
    m_law_many := PySem.W.mg_of X G a_law_many
    a_law_great := f_law_great
    d_law_great := _
    F_law_great := fun_mk (st := s_law_great) l_law_great c_law_great k_law_great
    m_law_great := PySem.W.mg_of X G a_law_great
    a_law_tokens := f_law_tokens
    d_law_tokens := _
    F_law_tokens := fun_mk (st := s_law_tokens) l_law_tokens c_law_tokens k_law_tokens
    m_law_tokens := PySem.W.mg_of X G a_law_tokens
    a_law_written := f_law_written
    d_law_written := _
    F_law_written := fun_mk (st := s_law_written) l_law_written c_law_written k_law_written
    m_law_written := PySem.W.mg_of X G a_law_written
    a_law_text_item := f_law_text_item
    d_law_text_item := _
    F_law_text_item := fun_mk (st := s_law_text_item) l_law_text_item c_law_text_item k_law_text_item
    m_law_text_item := PySem.W.mg_of X G a_law_text_item
    a_law_spaced := f_law_spaced
    d_law_spaced := _
    F_law_spaced := fun_mk (st := s_law_spaced) l_law_spaced c_law_spaced k_law_spaced
    m_law_spaced := PySem.W.mg_of X G a_law_spaced
    a_law_pattern := f_law_pattern
    d_law_pattern := _
    F_law_pattern := fun_mk (st := s_law_pattern) l_law_pattern c_law_pattern k_law_pattern
    m_law_pattern := PySem.W.mg_of X G a_law_pattern
    a_law_read := f_law_read
    d_law_read := _
    F_law_read := fun_mk (st := s_law_read) l_law_read c_law_read k_law_read
    m_law_read := PySem.W.mg_of X G a_law_read
    a_law_again := f_law_again
    d_law_again := _
    F_law_again := fun_mk (st := s_law_again) l_law_again c_law_again k_law_again
    m_law_again := PySem.W.mg_of X G a_law_again
    alaw := fa
    dlaw := _
    Flaw := fun_mk (st := slaw) llaw claw klaw
    mlaw := PySem.W.mg_of X G alaw }
  refine ⟨T.dlaw, fun s v => .of_eq rfl, fun base _ _ => ?_⟩
  let D : Dic K w mg := {
    c_EXPRESSION_PARTS := c_EXPRESSION_PARTS
    g_EXPRESSION_PARTS := PySem.W.mg_of X G g_EXPRESSION_PARTS
    e_EXPRESSION_PARTS := e_EXPRESSION_PARTS
    n_EXPRESSION_PARTS := n_EXPRESSION_PARTS
    D_EXPRESSION_PARTS := ⟨d_EXPRESSION_PARTS, l_EXPRESSION_PARTS, s_EXPRESSION_PARTS⟩
    q_EXPRESSION_PARTS := by
      intro x ks h
      simp only [rows_EXPRESSION_PARTS, List.mem_cons, List.not_mem_nil, or_false, Prod.mk.injEq] at h
      rcases h with ⟨rfl, rfl⟩ | ⟨rfl, rfl⟩ | ⟨rfl, rfl⟩ | ⟨rfl, rfl⟩ | ⟨rfl, rfl⟩ | ⟨rfl, rfl⟩ | ⟨rfl, rfl⟩ | ⟨rfl, rfl⟩ | ⟨rfl, rfl⟩
      · exact ⟨_, q0_EXPRESSION_PARTS, k0_EXPRESSION_PARTS⟩
      · exact ⟨_, q1_EXPRESSION_PARTS, k1_EXPRESSION_PARTS⟩
      · exact ⟨_, q2_EXPRESSION_PARTS, k2_EXPRESSION_PARTS⟩
      · exact ⟨_, q3_EXPRESSION_PARTS, k3_EXPRESSION_PARTS⟩
      · exact ⟨_, q4_EXPRESSION_PARTS, k4_EXPRESSION_PARTS⟩
      · exact ⟨_, q5_EXPRESSION_PARTS, k5_EXPRESSION_PARTS⟩
      · exact ⟨_, q6_EXPRESSION_PARTS, k6_EXPRESSION_PARTS⟩
      · exact ⟨_, q7_EXPRESSION_PARTS, k7_EXPRESSION_PARTS⟩
      · exact ⟨_, q8_EXPRESSION_PARTS, k8_EXPRESSION_PARTS⟩
    c_CONDITION_PARTS := c_CONDITION_PARTS
    g_CONDITION_PARTS := PySem.W.mg_of X G g_CONDITION_PARTS
    e_CONDITION_PARTS := e_CONDITION_PARTS
    n_CONDITION_PARTS := n_CONDITION_PARTS
    D_CONDITION_PARTS := ⟨d_CONDITION_PARTS, l_CONDITION_PARTS, s_CONDITION_PARTS⟩
    q_CONDITION_PARTS := by
      intro x ks h
      simp only [rows_CONDITION_PARTS, List.mem_cons, List.not_mem_nil, or_false, Prod.mk.injEq] at h
      rcases h with ⟨rfl, rfl⟩ | ⟨rfl, rfl⟩ | ⟨rfl, rfl⟩
      · exact ⟨_, q0_CONDITION_PARTS, k0_CONDITION_PARTS⟩
      · exact ⟨_, q1_CONDITION_PARTS, k1_CONDITION_PARTS⟩
      · exact ⟨_, q2_CONDITION_PARTS, k2_CONDITION_PARTS⟩ }
  exact ok_law T D
end NL
open PySem PySem.W PyProof.Rows
set_option maxRecDepth 100000 in
set_option maxHeartbeats 0 in
theorem PySem.Challenge.cw_neverleaves_k07_expressions_read_back_holds : PySem.Challenge.rw_neverleaves_k07_expressions_read_back.Holds := by
  w_on; o_law; k_head; (case hw => w_witness2)
  k_fill
  refine L2.walk_of (l := PySem.Challenge.rw_neverleaves_k07_expressions_read_back) (n := 63) (k := 50) (x := "script") (CX := fun _ => L2.CX0) (sp := fun w => NL.spLaw _) rfl (by decide) rfl ⟨rfl, by decide, by decide⟩ (fun w h Y => PySem.W.kIn_of Y) ?F (fun _ _ a ns hl _ hS => ⟨a, ns, rfl, hS, hl, fun _ => rfl⟩) (fun _ _ _ _ _ h => h)
  case F =>
    intro w mg fa h KX G hmg
    refine' NL.all_mk KX G hmg ?arun_end ?lrun_end ?crun_end ?krun_end ?ais_name ?lis_name ?cis_name ?kis_name ?ais_integer ?lis_integer ?cis_integer ?kis_integer ?aparts_in ?lparts_in ?cparts_in ?kparts_in ?atokens_of ?ltokens_of ?ctokens_of ?ktokens_of ?a_piece_end ?l_piece_end ?c_piece_end ?k_piece_end ?aread_whole ?lread_whole ?cread_whole ?kread_whole ?a_pass_token ?l_pass_token ?c_pass_token ?k_pass_token ?a_read_part ?l_read_part ?c_read_part ?k_read_part ?a_read_divisor ?l_read_divisor ?c_read_divisor ?k_read_divisor ?a_read_expression ?l_read_expression ?c_read_expression ?k_read_expression ?a_read_condition ?l_read_condition ?c_read_condition ?k_read_condition ?a_read_parts ?l_read_parts ?c_read_parts ?k_read_parts ?a_read_conditions ?l_read_conditions ?c_read_conditions ?k_read_conditions ?awrite_expression ?lwrite_expression ?cwrite_expression ?kwrite_expression ?awrite_condition ?lwrite_condition ?cwrite_condition ?kwrite_condition ?a_written ?l_written ?c_written ?k_written ?aread_expression ?lread_expression ?cread_expression ?kread_expression ?aread_condition ?lread_condition ?cread_condition ?kread_condition ?a_law_draws ?l_law_draws ?c_law_draws ?k_law_draws ?a_law_take ?l_law_take ?c_law_take ?k_law_take ?a_law_cell ?l_law_cell ?c_law_cell ?k_law_cell ?a_law_word ?l_law_word ?c_law_word ?k_law_word ?a_law_some_word ?l_law_some_word ?c_law_some_word ?k_law_some_word ?a_law_reserved ?l_law_reserved ?c_law_reserved ?k_law_reserved ?a_law_name ?l_law_name ?c_law_name ?k_law_name ?a_law_names ?l_law_names ?c_law_names ?k_law_names ?a_law_same ?l_law_same ?c_law_same ?k_law_same ?a_law_number ?l_law_number ?c_law_number ?k_law_number ?a_law_leaf ?l_law_leaf ?c_law_leaf ?k_law_leaf ?a_law_expression ?l_law_expression ?c_law_expression ?k_law_expression ?a_law_test ?l_law_test ?c_law_test ?k_law_test ?a_law_inner ?l_law_inner ?c_law_inner ?k_law_inner ?a_law_depth ?l_law_depth ?c_law_depth ?k_law_depth ?a_law_is_test ?l_law_is_test ?c_law_is_test ?k_law_is_test ?a_law_around ?l_law_around ?c_law_around ?k_law_around ?a_law_many ?l_law_many ?c_law_many ?k_law_many ?a_law_great ?l_law_great ?c_law_great ?k_law_great ?a_law_tokens ?l_law_tokens ?c_law_tokens ?k_law_tokens ?a_law_written ?l_law_written ?c_law_written ?k_law_written ?a_law_text_item ?l_law_text_item ?c_law_text_item ?k_law_text_item ?a_law_spaced ?l_law_spaced ?c_law_spaced ?k_law_spaced ?a_law_pattern ?l_law_pattern ?c_law_pattern ?k_law_pattern ?a_law_read ?l_law_read ?c_law_read ?k_law_read ?a_law_again ?l_law_again ?c_law_again ?k_law_again ?alaw ?llaw ?claw ?klaw ?g_LETTERS ?r_LETTERS ?g_DIGITS ?r_DIGITS ?g_MOST_DIGITS ?r_MOST_DIGITS ?g_WORDS ?k_WORDS ?g_MOST_DEPTH ?r_MOST_DEPTH ?g_EXPRESSION_PARTS ?d_EXPRESSION_PARTS ?l_EXPRESSION_PARTS ?s_EXPRESSION_PARTS ?q0_EXPRESSION_PARTS ?k0_EXPRESSION_PARTS ?q1_EXPRESSION_PARTS ?k1_EXPRESSION_PARTS ?q2_EXPRESSION_PARTS ?k2_EXPRESSION_PARTS ?q3_EXPRESSION_PARTS ?k3_EXPRESSION_PARTS ?q4_EXPRESSION_PARTS ?k4_EXPRESSION_PARTS ?q5_EXPRESSION_PARTS ?k5_EXPRESSION_PARTS ?q6_EXPRESSION_PARTS ?k6_EXPRESSION_PARTS ?q7_EXPRESSION_PARTS ?k7_EXPRESSION_PARTS ?q8_EXPRESSION_PARTS ?k8_EXPRESSION_PARTS ?g_CONDITION_PARTS ?d_CONDITION_PARTS ?l_CONDITION_PARTS ?s_CONDITION_PARTS ?q0_CONDITION_PARTS ?k0_CONDITION_PARTS ?q1_CONDITION_PARTS ?k1_CONDITION_PARTS ?q2_CONDITION_PARTS ?k2_CONDITION_PARTS ?z_abs ?z_bool ?z_int ?z_isinstance ?z_len ?z_list ?z_max ?z_range ?z_str ?z_tuple
    (case arun_end => k_is); (case lrun_end => k_is); (case crun_end => k_is); (case krun_end => k_is)
    (case ais_name => k_is); (case lis_name => k_is); (case cis_name => k_is); (case kis_name => k_is)
    (case ais_integer => k_is); (case lis_integer => k_is); (case cis_integer => k_is); (case kis_integer => k_is)
    (case aparts_in => k_is); (case lparts_in => k_is); (case cparts_in => k_is); (case kparts_in => k_is)
    (case atokens_of => k_is); (case ltokens_of => k_is); (case ctokens_of => k_is); (case ktokens_of => k_is)
    (case a_piece_end => k_is); (case l_piece_end => k_is); (case c_piece_end => k_is); (case k_piece_end => k_is)
    (case aread_whole => k_is); (case lread_whole => k_is); (case cread_whole => k_is); (case kread_whole => k_is)
    (case a_pass_token => k_is); (case l_pass_token => k_is); (case c_pass_token => k_is); (case k_pass_token => k_is)
    (case a_read_part => k_is); (case l_read_part => k_is); (case c_read_part => k_is); (case k_read_part => k_is)
    (case a_read_divisor => k_is); (case l_read_divisor => k_is); (case c_read_divisor => k_is); (case k_read_divisor => k_is)
    (case a_read_expression => k_is); (case l_read_expression => k_is); (case c_read_expression => k_is); (case k_read_expression => k_is)
    (case a_read_condition => k_is); (case l_read_condition => k_is); (case c_read_condition => k_is); (case k_read_condition => k_is)
    (case a_read_parts => k_is); (case l_read_parts => k_is); (case c_read_parts => k_is); (case k_read_parts => k_is)
    (case a_read_conditions => k_is); (case l_read_conditions => k_is); (case c_read_conditions => k_is); (case k_read_conditions => k_is)
    (case awrite_expression => k_is); (case lwrite_expression => k_is); (case cwrite_expression => k_is); (case kwrite_expression => k_is)
    (case awrite_condition => k_is); (case lwrite_condition => k_is); (case cwrite_condition => k_is); (case kwrite_condition => k_is)
    (case a_written => k_is); (case l_written => k_is); (case c_written => k_is); (case k_written => k_is)
    (case aread_expression => k_is); (case lread_expression => k_is); (case cread_expression => k_is); (case kread_expression => k_is)
    (case aread_condition => k_is); (case lread_condition => k_is); (case cread_condition => k_is); (case kread_condition => k_is)
    (case a_law_draws => k_is); (case l_law_draws => k_is); (case c_law_draws => k_is); (case k_law_draws => k_is)
    (case a_law_take => k_is); (case l_law_take => k_is); (case c_law_take => k_is); (case k_law_take => k_is)
    (case a_law_cell => k_is); (case l_law_cell => k_is); (case c_law_cell => k_is); (case k_law_cell => k_is)
    (case a_law_word => k_is); (case l_law_word => k_is); (case c_law_word => k_is); (case k_law_word => k_is)
    (case a_law_some_word => k_is); (case l_law_some_word => k_is); (case c_law_some_word => k_is); (case k_law_some_word => k_is)
    (case a_law_reserved => k_is); (case l_law_reserved => k_is); (case c_law_reserved => k_is); (case k_law_reserved => k_is)
    (case a_law_name => k_is); (case l_law_name => k_is); (case c_law_name => k_is); (case k_law_name => k_is)
    (case a_law_names => k_is); (case l_law_names => k_is); (case c_law_names => k_is); (case k_law_names => k_is)
    (case a_law_same => k_is); (case l_law_same => k_is); (case c_law_same => k_is); (case k_law_same => k_is)
    (case a_law_number => k_is); (case l_law_number => k_is); (case c_law_number => k_is); (case k_law_number => k_is)
    (case a_law_leaf => k_is); (case l_law_leaf => k_is); (case c_law_leaf => k_is); (case k_law_leaf => k_is)
    (case a_law_expression => k_is); (case l_law_expression => k_is); (case c_law_expression => k_is); (case k_law_expression => k_is)
    (case a_law_test => k_is); (case l_law_test => k_is); (case c_law_test => k_is); (case k_law_test => k_is)
    (case a_law_inner => k_is); (case l_law_inner => k_is); (case c_law_inner => k_is); (case k_law_inner => k_is)
    (case a_law_depth => k_is); (case l_law_depth => k_is); (case c_law_depth => k_is); (case k_law_depth => k_is)
    (case a_law_is_test => k_is); (case l_law_is_test => k_is); (case c_law_is_test => k_is); (case k_law_is_test => k_is)
    (case a_law_around => k_is); (case l_law_around => k_is); (case c_law_around => k_is); (case k_law_around => k_is)
    (case a_law_many => k_is); (case l_law_many => k_is); (case c_law_many => k_is); (case k_law_many => k_is)
    (case a_law_great => k_is); (case l_law_great => k_is); (case c_law_great => k_is); (case k_law_great => k_is)
    (case a_law_tokens => k_is); (case l_law_tokens => k_is); (case c_law_tokens => k_is); (case k_law_tokens => k_is)
    (case a_law_written => k_is); (case l_law_written => k_is); (case c_law_written => k_is); (case k_law_written => k_is)
    (case a_law_text_item => k_is); (case l_law_text_item => k_is); (case c_law_text_item => k_is); (case k_law_text_item => k_is)
    (case a_law_spaced => k_is); (case l_law_spaced => k_is); (case c_law_spaced => k_is); (case k_law_spaced => k_is)
    (case a_law_pattern => k_is); (case l_law_pattern => k_is); (case c_law_pattern => k_is); (case k_law_pattern => k_is)
    (case a_law_read => k_is); (case l_law_read => k_is); (case c_law_read => k_is); (case k_law_read => k_is)
    (case a_law_again => k_is); (case l_law_again => k_is); (case c_law_again => k_is); (case k_law_again => k_is)
    (case alaw => k_is); (case llaw => k_is); (case claw => k_is); (case klaw => k_is)
    (case g_LETTERS => k_is); (case r_LETTERS => exact ⟨_, rfl⟩)
    (case g_DIGITS => k_is); (case r_DIGITS => exact ⟨_, rfl⟩)
    (case g_MOST_DIGITS => k_is); (case r_MOST_DIGITS => exact ⟨_, rfl⟩)
    (case g_WORDS => k_is); (case k_WORDS => (refine' NL.kt_mk ?h1 ?h2 ?h3 ?h4 ?h5; (case h1 => k_is); (case h2 => rfl); (case h3 => rfl); (case h4 => decide); (case h5 => repeat (first | exact .nil | refine .cons ⟨_, rfl⟩ ?_))))
    (case g_MOST_DEPTH => k_is); (case r_MOST_DEPTH => exact ⟨_, rfl⟩)
    (case g_EXPRESSION_PARTS => k_is); (case d_EXPRESSION_PARTS => k_is); (case l_EXPRESSION_PARTS => repeat (first | exact trivial | refine ⟨⟨_, _, rfl, rfl⟩, ?_⟩)); (case s_EXPRESSION_PARTS => decide)
    (case q0_EXPRESSION_PARTS => k_is); (case k0_EXPRESSION_PARTS => (refine' NL.kt_mk ?h1 ?h2 ?h3 ?h4 ?h5; (case h1 => k_is); (case h2 => rfl); (case h3 => rfl); (case h4 => decide); (case h5 => repeat (first | exact .nil | refine .cons ⟨_, rfl⟩ ?_))))
    (case q1_EXPRESSION_PARTS => k_is); (case k1_EXPRESSION_PARTS => (refine' NL.kt_mk ?h1 ?h2 ?h3 ?h4 ?h5; (case h1 => k_is); (case h2 => rfl); (case h3 => rfl); (case h4 => decide); (case h5 => repeat (first | exact .nil | refine .cons ⟨_, rfl⟩ ?_))))
    (case q2_EXPRESSION_PARTS => k_is); (case k2_EXPRESSION_PARTS => (refine' NL.kt_mk ?h1 ?h2 ?h3 ?h4 ?h5; (case h1 => k_is); (case h2 => rfl); (case h3 => rfl); (case h4 => decide); (case h5 => repeat (first | exact .nil | refine .cons ⟨_, rfl⟩ ?_))))
    (case q3_EXPRESSION_PARTS => k_is); (case k3_EXPRESSION_PARTS => (refine' NL.kt_mk ?h1 ?h2 ?h3 ?h4 ?h5; (case h1 => k_is); (case h2 => rfl); (case h3 => rfl); (case h4 => decide); (case h5 => repeat (first | exact .nil | refine .cons ⟨_, rfl⟩ ?_))))
    (case q4_EXPRESSION_PARTS => k_is); (case k4_EXPRESSION_PARTS => (refine' NL.kt_mk ?h1 ?h2 ?h3 ?h4 ?h5; (case h1 => k_is); (case h2 => rfl); (case h3 => rfl); (case h4 => decide); (case h5 => repeat (first | exact .nil | refine .cons ⟨_, rfl⟩ ?_))))
    (case q5_EXPRESSION_PARTS => k_is); (case k5_EXPRESSION_PARTS => (refine' NL.kt_mk ?h1 ?h2 ?h3 ?h4 ?h5; (case h1 => k_is); (case h2 => rfl); (case h3 => rfl); (case h4 => decide); (case h5 => repeat (first | exact .nil | refine .cons ⟨_, rfl⟩ ?_))))
    (case q6_EXPRESSION_PARTS => k_is); (case k6_EXPRESSION_PARTS => (refine' NL.kt_mk ?h1 ?h2 ?h3 ?h4 ?h5; (case h1 => k_is); (case h2 => rfl); (case h3 => rfl); (case h4 => decide); (case h5 => repeat (first | exact .nil | refine .cons ⟨_, rfl⟩ ?_))))
    (case q7_EXPRESSION_PARTS => k_is); (case k7_EXPRESSION_PARTS => (refine' NL.kt_mk ?h1 ?h2 ?h3 ?h4 ?h5; (case h1 => k_is); (case h2 => rfl); (case h3 => rfl); (case h4 => decide); (case h5 => repeat (first | exact .nil | refine .cons ⟨_, rfl⟩ ?_))))
    (case q8_EXPRESSION_PARTS => k_is); (case k8_EXPRESSION_PARTS => (refine' NL.kt_mk ?h1 ?h2 ?h3 ?h4 ?h5; (case h1 => k_is); (case h2 => rfl); (case h3 => rfl); (case h4 => decide); (case h5 => repeat (first | exact .nil | refine .cons ⟨_, rfl⟩ ?_))))
    (case g_CONDITION_PARTS => k_is); (case d_CONDITION_PARTS => k_is); (case l_CONDITION_PARTS => repeat (first | exact trivial | refine ⟨⟨_, _, rfl, rfl⟩, ?_⟩)); (case s_CONDITION_PARTS => decide)
    (case q0_CONDITION_PARTS => k_is); (case k0_CONDITION_PARTS => (refine' NL.kt_mk ?h1 ?h2 ?h3 ?h4 ?h5; (case h1 => k_is); (case h2 => rfl); (case h3 => rfl); (case h4 => decide); (case h5 => repeat (first | exact .nil | refine .cons ⟨_, rfl⟩ ?_))))
    (case q1_CONDITION_PARTS => k_is); (case k1_CONDITION_PARTS => (refine' NL.kt_mk ?h1 ?h2 ?h3 ?h4 ?h5; (case h1 => k_is); (case h2 => rfl); (case h3 => rfl); (case h4 => decide); (case h5 => repeat (first | exact .nil | refine .cons ⟨_, rfl⟩ ?_))))
    (case q2_CONDITION_PARTS => k_is); (case k2_CONDITION_PARTS => (refine' NL.kt_mk ?h1 ?h2 ?h3 ?h4 ?h5; (case h1 => k_is); (case h2 => rfl); (case h3 => rfl); (case h4 => decide); (case h5 => repeat (first | exact .nil | refine .cons ⟨_, rfl⟩ ?_))))
    (case z_abs => k_is)
    (case z_bool => k_is)
    (case z_int => k_is)
    (case z_isinstance => k_is)
    (case z_len => k_is)
    (case z_list => k_is)
    (case z_max => k_is)
    (case z_range => k_is)
    (case z_str => k_is)
    (case z_tuple => k_is)
