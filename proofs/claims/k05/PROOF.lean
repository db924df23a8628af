import PyProof.Rows.All
import Wide.All
import OpenK.AllK
import Wide.FinOn
import HandS.ForExc
import HandS.ForMost
import HandS.TupAny
import HandS.IsInst
import HandS.Codes
import HandS.FStr
import HandS.Zip
import HandS.EndBits
import HandS.Wide
import HandS.WideBits
import HandS.More
import HandS.DictComp
import HandS.TupSets
import HandS.SetFor
import KE.KxIndex
import PySem.Challenge.RW_neverleaves_k05_whole_values_of_parts
set_option Elab.async false
set_option linter.all false
set_option maxRecDepth 100000

namespace NL
open PySem PySem.Spec PyProof.Rows L2
def topS (i : Nat) : Stmt := PySem.Challenge.pw_neverleaves_k05_whole_values_of_parts.main.body.getD i (.Pass ⟨0, 0, 0, 0⟩)
abbrev srun_end : Stmt := topS 6
abbrev Nrun_end : List Str := ["text", "at", "characters"]
abbrev Prun_end : List Str := ["text", "at", "characters"]
theorem scrun_end : FnScope Nrun_end Prun_end (defScope srun_end) := ⟨rfl, rfl, rfl, by decide +kernel, rfl, by decide +kernel, by decide +kernel⟩
abbrev sis_name : Stmt := topS 7
abbrev Nis_name : List Str := ["word"]
abbrev Pis_name : List Str := ["word"]
theorem scis_name : FnScope Nis_name Pis_name (defScope sis_name) := ⟨rfl, rfl, rfl, by decide +kernel, rfl, by decide +kernel, by decide +kernel⟩
abbrev sparts_in : Stmt := topS 10
abbrev Nparts_in : List Str := ["whole", "word"]
abbrev Pparts_in : List Str := ["whole"]
theorem scparts_in : FnScope Nparts_in Pparts_in (defScope sparts_in) := ⟨rfl, rfl, rfl, by decide +kernel, rfl, by decide +kernel, by decide +kernel⟩
abbrev scheck_expression : Stmt := topS 11
abbrev Ncheck_expression : List Str := ["expression"]
abbrev Pcheck_expression : List Str := ["expression"]
theorem sccheck_expression : FnScope Ncheck_expression Pcheck_expression (defScope scheck_expression) := ⟨rfl, rfl, rfl, by decide +kernel, rfl, by decide +kernel, by decide +kernel⟩
abbrev s_check : Stmt := topS 12
abbrev N_check : List Str := ["whole", "depth", "word", "part"]
abbrev P_check : List Str := ["whole", "depth"]
theorem sc_check : FnScope N_check P_check (defScope s_check) := ⟨rfl, rfl, rfl, by decide +kernel, rfl, by decide +kernel, by decide +kernel⟩
abbrev svalue_of : Stmt := topS 13
abbrev Nvalue_of : List Str := ["expression", "values", "word", "chosen"]
abbrev Pvalue_of : List Str := ["expression", "values"]
theorem scvalue_of : FnScope Nvalue_of Pvalue_of (defScope svalue_of) := ⟨rfl, rfl, rfl, by decide +kernel, rfl, by decide +kernel, by decide +kernel⟩
abbrev s_value_of_two : Stmt := topS 14
abbrev N_value_of_two : List Str := ["word", "first", "second"]
abbrev P_value_of_two : List Str := ["word", "first", "second"]
theorem sc_value_of_two : FnScope N_value_of_two P_value_of_two (defScope s_value_of_two) := ⟨rfl, rfl, rfl, by decide +kernel, rfl, by decide +kernel, by decide +kernel⟩
abbrev sholds : Stmt := topS 15
abbrev Nholds : List Str := ["condition", "values", "word", "part"]
abbrev Pholds : List Str := ["condition", "values"]
theorem scholds : FnScope Nholds Pholds (defScope sholds) := ⟨rfl, rfl, rfl, by decide +kernel, rfl, by decide +kernel, by decide +kernel⟩
abbrev snames_in : Stmt := topS 16
abbrev Nnames_in : List Str := ["expression"]
abbrev Pnames_in : List Str := ["expression"]
theorem scnames_in : FnScope Nnames_in Pnames_in (defScope snames_in) := ⟨rfl, rfl, rfl, by decide +kernel, rfl, by decide +kernel, by decide +kernel⟩
abbrev s_all_names : Stmt := topS 17
abbrev N_all_names : List Str := ["whole", "found", "part"]
abbrev P_all_names : List Str := ["whole"]
theorem sc_all_names : FnScope N_all_names P_all_names (defScope s_all_names) := ⟨rfl, rfl, rfl, by decide +kernel, rfl, by decide +kernel, by decide +kernel⟩
abbrev s_law_draws : Stmt := topS 19
abbrev N_law_draws : List Str := ["script", "many", "cells", "cell", "rest", "draws", "k", "at", "once"]
abbrev P_law_draws : List Str := ["script", "many"]
theorem sc_law_draws : FnScope N_law_draws P_law_draws (defScope s_law_draws) := ⟨rfl, rfl, rfl, by decide +kernel, rfl, by decide +kernel, by decide +kernel⟩
abbrev s_law_take : Stmt := topS 20
abbrev N_law_take : List Str := ["draws", "many"]
abbrev P_law_take : List Str := ["draws", "many"]
theorem sc_law_take : FnScope N_law_take P_law_take (defScope s_law_take) := ⟨rfl, rfl, rfl, by decide +kernel, rfl, by decide +kernel, by decide +kernel⟩
abbrev s_law_cell : Stmt := topS 21
abbrev N_law_cell : List Str := ["script", "draws"]
abbrev P_law_cell : List Str := ["script", "draws"]
theorem sc_law_cell : FnScope N_law_cell P_law_cell (defScope s_law_cell) := ⟨rfl, rfl, rfl, by decide +kernel, rfl, by decide +kernel, by decide +kernel⟩
abbrev s_law_word : Stmt := topS 22
abbrev N_law_word : List Str := ["number", "word", "k"]
abbrev P_law_word : List Str := ["number"]
theorem sc_law_word : FnScope N_law_word P_law_word (defScope s_law_word) := ⟨rfl, rfl, rfl, by decide +kernel, rfl, by decide +kernel, by decide +kernel⟩
abbrev s_law_some_word : Stmt := topS 23
abbrev N_law_some_word : List Str := ["draws", "number", "great"]
abbrev P_law_some_word : List Str := ["draws"]
theorem sc_law_some_word : FnScope N_law_some_word P_law_some_word (defScope s_law_some_word) := ⟨rfl, rfl, rfl, by decide +kernel, rfl, by decide +kernel, by decide +kernel⟩
abbrev s_law_reserved : Stmt := topS 24
abbrev N_law_reserved : List Str := ["first"]
abbrev P_law_reserved : List Str := []
theorem sc_law_reserved : FnScope N_law_reserved P_law_reserved (defScope s_law_reserved) := ⟨rfl, rfl, rfl, by decide +kernel, rfl, by decide +kernel, by decide +kernel⟩
abbrev s_law_name : Stmt := topS 25
abbrev N_law_name : List Str := ["draws", "known", "name", "near"]
abbrev P_law_name : List Str := ["draws"]
theorem sc_law_name : FnScope N_law_name P_law_name (defScope s_law_name) := ⟨rfl, rfl, rfl, by decide +kernel, rfl, by decide +kernel, by decide +kernel⟩
abbrev s_law_names : Stmt := topS 26
abbrev N_law_names : List Str := ["draws", "many", "names", "k", "name"]
abbrev P_law_names : List Str := ["draws", "many"]
theorem sc_law_names : FnScope N_law_names P_law_names (defScope s_law_names) := ⟨rfl, rfl, rfl, by decide +kernel, rfl, by decide +kernel, by decide +kernel⟩
abbrev s_law_number : Stmt := topS 27
abbrev N_law_number : List Str := ["draws", "cell"]
abbrev P_law_number : List Str := ["draws", "cell"]
theorem sc_law_number : FnScope N_law_number P_law_number (defScope s_law_number) := ⟨rfl, rfl, rfl, by decide +kernel, rfl, by decide +kernel, by decide +kernel⟩
abbrev s_law_leaf : Stmt := topS 28
abbrev N_law_leaf : List Str := ["draws", "names", "cell"]
abbrev P_law_leaf : List Str := ["draws", "names", "cell"]
theorem sc_law_leaf : FnScope N_law_leaf P_law_leaf (defScope s_law_leaf) := ⟨rfl, rfl, rfl, by decide +kernel, rfl, by decide +kernel, by decide +kernel⟩
abbrev s_law_expression : Stmt := topS 29
abbrev N_law_expression : List Str := ["draws", "names", "cell", "depth", "kind", "one", "two"]
abbrev P_law_expression : List Str := ["draws", "names", "cell", "depth"]
theorem sc_law_expression : FnScope N_law_expression P_law_expression (defScope s_law_expression) := ⟨rfl, rfl, rfl, by decide +kernel, rfl, by decide +kernel, by decide +kernel⟩
abbrev s_law_test : Stmt := topS 30
abbrev N_law_test : List Str := ["draws", "names", "cell", "depth", "kind", "one", "many", "k"]
abbrev P_law_test : List Str := ["draws", "names", "cell", "depth"]
theorem sc_law_test : FnScope N_law_test P_law_test (defScope s_law_test) := ⟨rfl, rfl, rfl, by decide +kernel, rfl, by decide +kernel, by decide +kernel⟩
abbrev s_law_values : Stmt := topS 31
abbrev N_law_values : List Str := ["draws", "names", "cell", "found", "name"]
abbrev P_law_values : List Str := ["draws", "names", "cell"]
theorem sc_law_values : FnScope N_law_values P_law_values (defScope s_law_values) := ⟨rfl, rfl, rfl, by decide +kernel, rfl, by decide +kernel, by decide +kernel⟩
abbrev s_law_replaced : Stmt := topS 32
abbrev N_law_replaced : List Str := ["item", "values", "part"]
abbrev P_law_replaced : List Str := ["item", "values"]
theorem sc_law_replaced : FnScope N_law_replaced P_law_replaced (defScope s_law_replaced) := ⟨rfl, rfl, rfl, by decide +kernel, rfl, by decide +kernel, by decide +kernel⟩
abbrev s_law_of_two : Stmt := topS 33
abbrev N_law_of_two : List Str := ["one", "two", "n", "values", "first", "second", "both", "kind", "rest"]
abbrev P_law_of_two : List Str := ["one", "two", "n", "values"]
theorem sc_law_of_two : FnScope N_law_of_two P_law_of_two (defScope s_law_of_two) := ⟨rfl, rfl, rfl, by decide +kernel, rfl, by decide +kernel, by decide +kernel⟩
abbrev s_law_of_tests : Stmt := topS 34
abbrev N_law_of_tests : List Str := ["one", "two", "left", "right", "values", "first", "second", "due", "less"]
abbrev P_law_of_tests : List Str := ["one", "two", "left", "right", "values"]
theorem sc_law_of_tests : FnScope N_law_of_tests P_law_of_tests (defScope s_law_of_tests) := ⟨rfl, rfl, rfl, by decide +kernel, rfl, by decide +kernel, by decide +kernel⟩
abbrev slaw : Stmt := topS 35
abbrev Nlaw : List Str := ["script", "draws", "cell", "names", "left", "right", "one", "two", "n", "k", "values", "item", "plain"]
abbrev Plaw : List Str := ["script"]
theorem sclaw : FnScope Nlaw Plaw (defScope slaw) := ⟨rfl, rfl, rfl, by decide +kernel, rfl, by decide +kernel, by decide +kernel⟩
def KT (K : PySem.W.Frag) (a : Addr) (ys : List V) : Prop := ∃ o its n, List.lookup a K = some o ∧ o.cls = .type "tuple" ∧ o.data = .seq its n ∧ its.size ≤ sizeLine ∧ L2.Vals ys its.toList
theorem kt_mk {K : PySem.W.Frag} {a : Addr} {ys : List V} {o : Obj} {its : Array Value} {n : Nat} (h1 : List.lookup a K = some o) (h2 : o.cls = .type "tuple") (h3 : o.data = .seq its n) (h4 : its.size ≤ sizeLine) (h5 : L2.Vals ys its.toList) : KT K a ys := ⟨o, its, n, h1, h2, h3, h4, h5⟩
structure Txt (K : PySem.W.Frag) (mg : Str → Option Value) where
  z_abs : mg "abs" = none
  z_all : mg "all" = none
  z_any : mg "any" = none
  z_int : mg "int" = none
  z_len : mg "len" = none
  z_list : mg "list" = none
  z_max : mg "max" = none
  z_min : mg "min" = none
  z_range : mg "range" = none
  z_set : mg "set" = none
  z_sorted : mg "sorted" = none
  z_tuple : mg "tuple" = none
  u_LETTERS : Value
  g_LETTERS : mg "LETTERS" = some u_LETTERS
  r_LETTERS : L2.RelV (.str "abcdefghijklmnopqrstuvwxyz") u_LETTERS
  c_WORDS : Addr
  g_WORDS : mg "WORDS" = some (.ref c_WORDS)
  k_WORDS : KT K c_WORDS [(.str "true"), (.str "false"), (.str "add"), (.str "sub"), (.str "mul"), (.str "div"), (.str "mod"), (.str "min"), (.str "max"), (.str "abs"), (.str "if"), (.str "less"), (.str "equal"), (.str "not"), (.str "all"), (.str "any")]
  u_MOST_DEPTH : Value
  g_MOST_DEPTH : mg "MOST_DEPTH" = some u_MOST_DEPTH
  r_MOST_DEPTH : L2.RelV (.int 12) u_MOST_DEPTH
  arun_end : Addr
  drun_end : FuncData
  Frun_end : Fun K "run_end" "run_end" srun_end arun_end drun_end
  mrun_end : mg "run_end" = some (.ref arun_end)
  ais_name : Addr
  dis_name : FuncData
  Fis_name : Fun K "is_name" "is_name" sis_name ais_name dis_name
  mis_name : mg "is_name" = some (.ref ais_name)
  aparts_in : Addr
  dparts_in : FuncData
  Fparts_in : Fun K "parts_in" "parts_in" sparts_in aparts_in dparts_in
  mparts_in : mg "parts_in" = some (.ref aparts_in)
  acheck_expression : Addr
  dcheck_expression : FuncData
  Fcheck_expression : Fun K "check_expression" "check_expression" scheck_expression acheck_expression dcheck_expression
  mcheck_expression : mg "check_expression" = some (.ref acheck_expression)
  a_check : Addr
  d_check : FuncData
  F_check : Fun K "_check" "_check" s_check a_check d_check
  m_check : mg "_check" = some (.ref a_check)
  avalue_of : Addr
  dvalue_of : FuncData
  Fvalue_of : Fun K "value_of" "value_of" svalue_of avalue_of dvalue_of
  mvalue_of : mg "value_of" = some (.ref avalue_of)
  a_value_of_two : Addr
  d_value_of_two : FuncData
  F_value_of_two : Fun K "_value_of_two" "_value_of_two" s_value_of_two a_value_of_two d_value_of_two
  m_value_of_two : mg "_value_of_two" = some (.ref a_value_of_two)
  aholds : Addr
  dholds : FuncData
  Fholds : Fun K "holds" "holds" sholds aholds dholds
  mholds : mg "holds" = some (.ref aholds)
  anames_in : Addr
  dnames_in : FuncData
  Fnames_in : Fun K "names_in" "names_in" snames_in anames_in dnames_in
  mnames_in : mg "names_in" = some (.ref anames_in)
  a_all_names : Addr
  d_all_names : FuncData
  F_all_names : Fun K "_all_names" "_all_names" s_all_names a_all_names d_all_names
  m_all_names : mg "_all_names" = some (.ref a_all_names)
  a_law_draws : Addr
  d_law_draws : FuncData
  F_law_draws : Fun K "_law_draws" "_law_draws" s_law_draws a_law_draws d_law_draws
  m_law_draws : mg "_law_draws" = some (.ref a_law_draws)
  a_law_take : Addr
  d_law_take : FuncData
  F_law_take : Fun K "_law_take" "_law_take" s_law_take a_law_take d_law_take
  m_law_take : mg "_law_take" = some (.ref a_law_take)
  a_law_cell : Addr
  d_law_cell : FuncData
  F_law_cell : Fun K "_law_cell" "_law_cell" s_law_cell a_law_cell d_law_cell
  m_law_cell : mg "_law_cell" = some (.ref a_law_cell)
  a_law_word : Addr
  d_law_word : FuncData
  F_law_word : Fun K "_law_word" "_law_word" s_law_word a_law_word d_law_word
  m_law_word : mg "_law_word" = some (.ref a_law_word)
  a_law_some_word : Addr
  d_law_some_word : FuncData
  F_law_some_word : Fun K "_law_some_word" "_law_some_word" s_law_some_word a_law_some_word d_law_some_word
  m_law_some_word : mg "_law_some_word" = some (.ref a_law_some_word)
  a_law_reserved : Addr
  d_law_reserved : FuncData
  F_law_reserved : Fun K "_law_reserved" "_law_reserved" s_law_reserved a_law_reserved d_law_reserved
  m_law_reserved : mg "_law_reserved" = some (.ref a_law_reserved)
  a_law_name : Addr
  d_law_name : FuncData
  F_law_name : Fun K "_law_name" "_law_name" s_law_name a_law_name d_law_name
  m_law_name : mg "_law_name" = some (.ref a_law_name)
  a_law_names : Addr
  d_law_names : FuncData
  F_law_names : Fun K "_law_names" "_law_names" s_law_names a_law_names d_law_names
  m_law_names : mg "_law_names" = some (.ref a_law_names)
  a_law_number : Addr
  d_law_number : FuncData
  F_law_number : Fun K "_law_number" "_law_number" s_law_number a_law_number d_law_number
  m_law_number : mg "_law_number" = some (.ref a_law_number)
  a_law_leaf : Addr
  d_law_leaf : FuncData
  F_law_leaf : Fun K "_law_leaf" "_law_leaf" s_law_leaf a_law_leaf d_law_leaf
  m_law_leaf : mg "_law_leaf" = some (.ref a_law_leaf)
  a_law_expression : Addr
  d_law_expression : FuncData
  F_law_expression : Fun K "_law_expression" "_law_expression" s_law_expression a_law_expression d_law_expression
  m_law_expression : mg "_law_expression" = some (.ref a_law_expression)
  a_law_test : Addr
  d_law_test : FuncData
  F_law_test : Fun K "_law_test" "_law_test" s_law_test a_law_test d_law_test
  m_law_test : mg "_law_test" = some (.ref a_law_test)
  a_law_values : Addr
  d_law_values : FuncData
  F_law_values : Fun K "_law_values" "_law_values" s_law_values a_law_values d_law_values
  m_law_values : mg "_law_values" = some (.ref a_law_values)
  a_law_replaced : Addr
  d_law_replaced : FuncData
  F_law_replaced : Fun K "_law_replaced" "_law_replaced" s_law_replaced a_law_replaced d_law_replaced
  m_law_replaced : mg "_law_replaced" = some (.ref a_law_replaced)
  a_law_of_two : Addr
  d_law_of_two : FuncData
  F_law_of_two : Fun K "_law_of_two" "_law_of_two" s_law_of_two a_law_of_two d_law_of_two
  m_law_of_two : mg "_law_of_two" = some (.ref a_law_of_two)
  a_law_of_tests : Addr
  d_law_of_tests : FuncData
  F_law_of_tests : Fun K "_law_of_tests" "_law_of_tests" s_law_of_tests a_law_of_tests d_law_of_tests
  m_law_of_tests : mg "_law_of_tests" = some (.ref a_law_of_tests)
  alaw : Addr
  dlaw : FuncData
  Flaw : Fun K "law" "law" slaw alaw dlaw
  mlaw : mg "law" = some (.ref alaw)
theorem Txt.brun_end {K : PySem.W.Frag} {mg : Str → Option Value} (T : Txt K mg) : Binds K T.drun_end Prun_end [] := T.Frun_end.binds fun _ _ _ _ _ _ us hl => match us, hl with | [_, _, _], _ => rfl
theorem Txt.bis_name {K : PySem.W.Frag} {mg : Str → Option Value} (T : Txt K mg) : Binds K T.dis_name Pis_name [] := T.Fis_name.binds fun _ _ _ _ _ _ us hl => match us, hl with | [_], _ => rfl
theorem Txt.bparts_in {K : PySem.W.Frag} {mg : Str → Option Value} (T : Txt K mg) : Binds K T.dparts_in Pparts_in [] := T.Fparts_in.binds fun _ _ _ _ _ _ us hl => match us, hl with | [_], _ => rfl
theorem Txt.bcheck_expression {K : PySem.W.Frag} {mg : Str → Option Value} (T : Txt K mg) : Binds K T.dcheck_expression Pcheck_expression [] := T.Fcheck_expression.binds fun _ _ _ _ _ _ us hl => match us, hl with | [_], _ => rfl
theorem Txt.b_check {K : PySem.W.Frag} {mg : Str → Option Value} (T : Txt K mg) : Binds K T.d_check P_check [] := T.F_check.binds fun _ _ _ _ _ _ us hl => match us, hl with | [_, _], _ => rfl
theorem Txt.bvalue_of {K : PySem.W.Frag} {mg : Str → Option Value} (T : Txt K mg) : Binds K T.dvalue_of Pvalue_of [] := T.Fvalue_of.binds fun _ _ _ _ _ _ us hl => match us, hl with | [_, _], _ => rfl
theorem Txt.b_value_of_two {K : PySem.W.Frag} {mg : Str → Option Value} (T : Txt K mg) : Binds K T.d_value_of_two P_value_of_two [] := T.F_value_of_two.binds fun _ _ _ _ _ _ us hl => match us, hl with | [_, _, _], _ => rfl
theorem Txt.bholds {K : PySem.W.Frag} {mg : Str → Option Value} (T : Txt K mg) : Binds K T.dholds Pholds [] := T.Fholds.binds fun _ _ _ _ _ _ us hl => match us, hl with | [_, _], _ => rfl
theorem Txt.bnames_in {K : PySem.W.Frag} {mg : Str → Option Value} (T : Txt K mg) : Binds K T.dnames_in Pnames_in [] := T.Fnames_in.binds fun _ _ _ _ _ _ us hl => match us, hl with | [_], _ => rfl
theorem Txt.b_all_names {K : PySem.W.Frag} {mg : Str → Option Value} (T : Txt K mg) : Binds K T.d_all_names P_all_names [] := T.F_all_names.binds fun _ _ _ _ _ _ us hl => match us, hl with | [_], _ => rfl
theorem Txt.b_law_draws {K : PySem.W.Frag} {mg : Str → Option Value} (T : Txt K mg) : Binds K T.d_law_draws P_law_draws [] := T.F_law_draws.binds fun _ _ _ _ _ _ us hl => match us, hl with | [_, _], _ => rfl
theorem Txt.b_law_take {K : PySem.W.Frag} {mg : Str → Option Value} (T : Txt K mg) : Binds K T.d_law_take P_law_take [] := T.F_law_take.binds fun _ _ _ _ _ _ us hl => match us, hl with | [_, _], _ => rfl
theorem Txt.b_law_cell {K : PySem.W.Frag} {mg : Str → Option Value} (T : Txt K mg) : Binds K T.d_law_cell P_law_cell [] := T.F_law_cell.binds fun _ _ _ _ _ _ us hl => match us, hl with | [_, _], _ => rfl
theorem Txt.b_law_word {K : PySem.W.Frag} {mg : Str → Option Value} (T : Txt K mg) : Binds K T.d_law_word P_law_word [] := T.F_law_word.binds fun _ _ _ _ _ _ us hl => match us, hl with | [_], _ => rfl
theorem Txt.b_law_some_word {K : PySem.W.Frag} {mg : Str → Option Value} (T : Txt K mg) : Binds K T.d_law_some_word P_law_some_word [] := T.F_law_some_word.binds fun _ _ _ _ _ _ us hl => match us, hl with | [_], _ => rfl
theorem Txt.b_law_reserved {K : PySem.W.Frag} {mg : Str → Option Value} (T : Txt K mg) : Binds K T.d_law_reserved P_law_reserved [] := T.F_law_reserved.binds fun _ _ _ _ _ _ us hl => match us, hl with | [], _ => rfl
theorem Txt.b_law_name {K : PySem.W.Frag} {mg : Str → Option Value} (T : Txt K mg) : Binds K T.d_law_name P_law_name [] := T.F_law_name.binds fun _ _ _ _ _ _ us hl => match us, hl with | [_], _ => rfl
theorem Txt.b_law_names {K : PySem.W.Frag} {mg : Str → Option Value} (T : Txt K mg) : Binds K T.d_law_names P_law_names [] := T.F_law_names.binds fun _ _ _ _ _ _ us hl => match us, hl with | [_, _], _ => rfl
theorem Txt.b_law_number {K : PySem.W.Frag} {mg : Str → Option Value} (T : Txt K mg) : Binds K T.d_law_number P_law_number [] := T.F_law_number.binds fun _ _ _ _ _ _ us hl => match us, hl with | [_, _], _ => rfl
theorem Txt.b_law_leaf {K : PySem.W.Frag} {mg : Str → Option Value} (T : Txt K mg) : Binds K T.d_law_leaf P_law_leaf [] := T.F_law_leaf.binds fun _ _ _ _ _ _ us hl => match us, hl with | [_, _, _], _ => rfl
theorem Txt.b_law_expression {K : PySem.W.Frag} {mg : Str → Option Value} (T : Txt K mg) : Binds K T.d_law_expression P_law_expression [] := T.F_law_expression.binds fun _ _ _ _ _ _ us hl => match us, hl with | [_, _, _, _], _ => rfl
theorem Txt.b_law_test {K : PySem.W.Frag} {mg : Str → Option Value} (T : Txt K mg) : Binds K T.d_law_test P_law_test [] := T.F_law_test.binds fun _ _ _ _ _ _ us hl => match us, hl with | [_, _, _, _], _ => rfl
theorem Txt.b_law_values {K : PySem.W.Frag} {mg : Str → Option Value} (T : Txt K mg) : Binds K T.d_law_values P_law_values [] := T.F_law_values.binds fun _ _ _ _ _ _ us hl => match us, hl with | [_, _, _], _ => rfl
theorem Txt.b_law_replaced {K : PySem.W.Frag} {mg : Str → Option Value} (T : Txt K mg) : Binds K T.d_law_replaced P_law_replaced [] := T.F_law_replaced.binds fun _ _ _ _ _ _ us hl => match us, hl with | [_, _], _ => rfl
theorem Txt.b_law_of_two {K : PySem.W.Frag} {mg : Str → Option Value} (T : Txt K mg) : Binds K T.d_law_of_two P_law_of_two [] := T.F_law_of_two.binds fun _ _ _ _ _ _ us hl => match us, hl with | [_, _, _, _], _ => rfl
theorem Txt.b_law_of_tests {K : PySem.W.Frag} {mg : Str → Option Value} (T : Txt K mg) : Binds K T.d_law_of_tests P_law_of_tests [] := T.F_law_of_tests.binds fun _ _ _ _ _ _ us hl => match us, hl with | [_, _, _, _, _], _ => rfl
theorem Txt.blaw {K : PySem.W.Frag} {mg : Str → Option Value} (T : Txt K mg) : Binds K T.dlaw Plaw [] := T.Flaw.binds fun _ _ _ _ _ _ us hl => match us, hl with | [_], _ => rfl
end NL

namespace NL
open PySem PySem.Spec PyProof.Rows L2
/-! ### the end, with what the top leaves of imports and hooks: nothing stands in the way of a long division -/
theorem law_callN {P : Program} {w : World} {K : PySem.W.Frag} {mg mb : Str → Option Value} {CX : CXT} {k : Nat} {fa a : Addr} {fd : FuncData} {x : Str} {sp : Sp} {s₁ : Shared} {vs : List Value} {ns : List Int}
    (KX : K.In s₁.heap) (hns : s₁.heap.Ns mainGlobals mg) (hb : s₁.heap.Ns builtinsNs mb) (hbb : ∀ (x : Str), x ≠ Str.ofString "__name__" → mb x = bootBuiltins x) (hlim : s₁.heap.NoLimit) (hs : s₁.heap.NoSeer)
    (hg : s₁.gens = #[]) (ha : s₁.heap.get? a = some { cls := .type "list", data := .seq vs.toArray }) (hi : IntsAre vs ns) (hl : ns.length ≤ sizeLine) (hr : Room k callerA)
    (F : ∀ base : Heap, K.In base → base.Ns mainGlobals mg → base.NoSeer → FnOk P w K mg base CX k fa fd [x] sp)
    (hbind : ∀ (s : Shared) (u : Value), BindsTo s fd { pos := [u] } [(x, u)])
    (hsp : ∀ H : Hp, Only H → SqL K H a (ns.map V.int) → sp [V.ref a] H (fun v _ => v = V.bl true) fun _ _ _ => False)
    (hCX : ∀ (H : Hp) (e : Value) (s' : Shared), CX [] H s₁ (fun _ _ _ => False) e s' → False) :
    codeAny (model P w) callerA (Code.call (.ref fa) { pos := [.ref a] }) (fun r s' => r = Except.ok (Flow.ret (.bool true)) ∧ OldK s₁.heap s'.heap ∧ s'.os = s₁.os ∧ AllBare s'.gens) s₁ := by
  have rv := vals_ints hi
  have lenV := IntsAre.length hi
  have core : ∀ (H : Hp), Only H → SqL K H a (ns.map V.int) → HOk P w H s₁.heap → (∀ b, H b ≠ none → b = a) → (H a ≠ none → List.lookup a K = none) →
      codeAny (model P w) callerA (Code.call (.ref fa) { pos := [.ref a] }) (fun r s' => r = Except.ok (Flow.ret (.bool true)) ∧ OldK s₁.heap s'.heap ∧ s'.os = s₁.os ∧ AllBare s'.gens) s₁ := by
    intro H hO hS hok hA hK
    have base_of : ∀ {b : Addr} {o : Obj}, s₁.heap.get? b = some o → H b = none → (hidT s₁.heap H).get? b = some o := fun e n => hidT_get e n
    have notL : ∀ {b : Addr} {o : Obj}, s₁.heap.get? b = some o → o.cls ≠ .type "list" → H b = none := fun {b o} e d => by
      cases q : H b with
      | none => rfl
      | some u =>
        have e' := hA b (by rw [q]; exact fun h => by cases h)
        subst e'
        rw [ha] at e
        cases e
        exact absurd rfl d
    have noA : ∀ {b : Addr} {o : Obj} {es : Array DictEntry} {ep : Nat}, s₁.heap.get? b = some o → o.data = .dict es ep → H b = none := fun {b o es ep} e d => by
      cases q : H b with
      | none => rfl
      | some u =>
        have e' := hA b (by rw [q]; exact fun h => by cases h)
        subst e'
        rw [ha] at e
        cases e
        cases d
    have nsK : ∀ {b : Addr} {m : Str → Option Value}, s₁.heap.Ns b m → (hidT s₁.heap H).Ns b m := fun {b m} h => by
      obtain ⟨o, es, ep, e, d, r⟩ := h
      exact ⟨o, es, ep, base_of e (noA e d), d, r⟩
    have hKb : K.In (hidT s₁.heap H) := fun b o e => base_of (KX b o e) (by
      cases q : H b with
      | none => rfl
      | some u =>
        have e' := hA b (by rw [q]; exact fun h => by cases h)
        subst e'
        have := hK (by rw [q]; exact fun h => by cases h)
        rw [this] at e
        cases e)
    have hNS : (hidT s₁.heap H).NoSeer := by
      obtain ⟨⟨mc, c1, c2, c3⟩, ⟨mm, m1, m2⟩, ⟨mb2, b1, b2⟩, ⟨mg2, bm, ob, g1, g2, g3, g4, g5⟩⟩ := hs
      exact ⟨⟨mc, nsK c1, c2, c3⟩, ⟨mm, nsK m1, m2⟩, ⟨mb2, nsK b1, b2⟩, ⟨mg2, bm, ob, nsK g1, g2, base_of g3 (notL g3 (by rw [g4]; decide)), g4, g5⟩⟩
    have hM : Mod K mg (hidT s₁.heap H) := ⟨hKb, nsK hns, ⟨mb, nsK hb, hbb⟩, by obtain ⟨mc, h1, h2⟩ := hlim; exact ⟨mc, nsK h1, h2⟩⟩
    have e0 : Env0 P w K mg (hidT s₁.heap H) callerA [] s₁ H := { frames := rfl, mod := hM, bs := fun b o e => of_hidT e, bsz := Nat.le_of_eq (hidT_size s₁.heap H), funs := trivial, frf := fun b hb => absurd hb List.not_mem_nil, hok := hok, bare := AllBare.of_eq hg }
    refine codeAny_mono ((F (hidT s₁.heap H) hKb (nsK hns) hNS).run callerA [] s₁ H { pos := [.ref a] } [.ref a] [V.ref a] (fun v _ => v = V.bl true) (fun _ _ _ => False) hr e0 (hbind s₁ (.ref a)) (.cons rfl .nil) (hsp H hO hS)) fun r s' h => ?_
    cases r with
    | error e => exact (hCX H e s' h).elim
    | ok fl =>
      cases fl with
      | ret u =>
        obtain ⟨v, H', os, bare, un, hok', r', q⟩ := h
        subst q
        have hu : u = Value.bool true := r'
        subst hu
        refine ⟨rfl, OldK.of_keep fun b o e => ?_, os, bare⟩
        cases q : H b with
        | none => exact un.keep b o e q (fun z => by simp [frs] at z) (fun z => by cases z)
        | some y =>
          rcases hO b with h0 | ⟨o', xs, h1⟩
          · rw [h0] at q; cases q
          · have z1 := un.frzs b o' _ h1
            have z2 := (hok' b _ z1).1
            have z3 := (hok b _ h1).1
            rw [z3] at e
            rw [z2]
            exact e
      | _ => exact (h : False).elim
  cases hk : List.lookup a K with
  | none =>
    refine core (fun b => if b = a then some (.frz { cls := .type "list", data := .seq vs.toArray } (.lst (ns.map V.int))) else none) (fun b => ?_) (.inl (.inr ⟨_, if_pos rfl⟩)) (fun b u z => ?_) (fun b z => ?_) (fun _ => hk)
    · by_cases h : b = a
      · exact .inr ⟨_, _, if_pos h⟩
      · exact .inl (if_neg h)
    · by_cases h : b = a
      · subst h
        have z' := (if_pos rfl).symm.trans z
        cases z'
        exact ⟨ha, by rw [List.length_map]; exact hl, vs, 0, rv, ha⟩
      · have z' := (if_neg h).symm.trans z
        cases z'
    · by_cases h : b = a
      · exact h
      · exact absurd (if_neg h) z
  | some o =>
    have e := KX a o hk
    rw [ha] at e
    cases e
    exact core (fun _ => none) (fun _ => .inl rfl) (.inr ⟨_, vs.toArray, 0, hk, rfl, rfl, rfl, by rw [List.size_toArray, lenV]; exact hl, rv⟩) (fun b u z => by cases z) (fun b z => absurd rfl z) (fun z => absurd rfl z)
theorem walk_ofN {l : PySem.W.OpenLaw} {n k : Nat} {q : Program} {loose : List Str} {XP : (Str → Option Value) → Heap → Prop} {YP : World → Heap → Prop} {d : DefRec} {K : Params → PySem.W.Frag} {CX : World → CXT} {sp : World → Sp} {x : Str}
    (hn : l.most = some n) (hn2 : n ≤ sizeLine) (hdf : d.params.defaults = []) (hr : Room k callerA) (hY : ∀ (w : World) (h : Heap), YP w h → (K w.params).In h) (him : importsNone q = true)
    (F : ∀ (w : World) (mg : Str → Option Value) (fa : Addr) (h : Heap), (K w.params).In h → h.Ns mainGlobals mg → mg d.name = some (.ref fa) → ∃ fd : FuncData, (∀ (s : Shared) (u : Value), BindsTo s fd { pos := [u] } [(x, u)]) ∧
      ∀ base : Heap, (K w.params).In base → base.Ns mainGlobals mg → base.NoSeer → FnOk l.prog w (K w.params) mg base (CX w) k fa fd [x] (sp w))
    (hsp : ∀ (w : World) (H : Hp) (a : Addr) (ns : List Int), ns.length ≤ n → (∀ z ∈ ns, Builtin.Int.intBits z ≤ 1048576) → Only H → SqL (K w.params) H a (ns.map V.int) → sp w [V.ref a] H (fun v _ => v = V.bl true) fun _ _ _ => False)
    (hCX : ∀ (w : World) (H : Hp) (s : Shared) (e : Value) (s' : Shared), CX w [] H s (fun _ _ _ => False) e s' → False) :
    PySem.W.WalkO q loose XP YP l.row.toRowW d [] fun f vs => PySem.call f vs :=
  Att.attach_callB hn hdf fun w s₀ s₁ mg mb fa o pm cd doc a vs ns G Y ho hd hcd hmg hobj hints hlen hbits hg => by
    have KX := hY w s₁.heap Y
    obtain ⟨fd, hb, hF⟩ := F w mg fa s₁.heap KX G.T.g hmg
    exact law_callN KX G.T.g G.T.b G.T.builtins G.T.nolimit (G.T.seer him) hg hobj hints (Nat.le_trans hlen hn2) hr hF hb (fun H hO hS => hsp w H a ns hlen hbits hO hS) fun H e s' => hCX w H s₁ e s'
/-! ### a // b, a % b: b positive, of any size; 97 frames lie ahead -/
theorem noseer_now {X : Cx} {pins : List (Addr × Obj)} {σ : L2.St} {H : Hp} {s : Shared} (hN : X.base.NoSeer) (I : L2.Inv X pins σ H s) : s.heap.NoSeer ∧ s.heap.NoLimit := by
  have hO := I.ok
  have kp : ∀ (b : Addr) (o : Obj), X.base.get? b = some o → ∃ o', s.heap.get? b = some o' ∧ o'.cls = o.cls ∧ o'.dict = o.dict ∧ o'.data = o.data := fun b o e => by
    obtain ⟨e1, e2⟩ := hO.bs b o e
    have hx := hO.noex b o e
    by_cases hf : b ∈ X.fs
    · obtain ⟨sl, h⟩ := I.base.slot b o e1 e2 hf hx
      exact ⟨_, h, rfl, rfl, rfl⟩
    · exact ⟨o, I.base.keep b o e1 e2 hf hx, rfl, rfl, rfl⟩
  have nsK : ∀ {b : Addr} {m : Str → Option Value}, X.base.Ns b m → s.heap.Ns b m := fun {b m} h => by
    obtain ⟨o, es, ep, e, d, r⟩ := h
    obtain ⟨o', e', _, _, d'⟩ := kp b o e
    exact ⟨o', es, ep, e', d'.trans d, r⟩
  obtain ⟨⟨mc, c1, c2, c3⟩, ⟨mm, m1, m2⟩, ⟨mb2, b1, b2⟩, ⟨mg2, bm, ob, g1, g2, g3, g4, g5⟩⟩ := hN
  obtain ⟨ob', e', f1, f2, _⟩ := kp bm ob g3
  obtain ⟨ml, l1, l2⟩ := hO.mod.nolimit
  exact ⟨⟨⟨mc, nsK c1, c2, c3⟩, ⟨mm, nsK m1, m2⟩, ⟨mb2, nsK b1, b2⟩, ⟨mg2, bm, ob', nsK g1, g2, e', f1.trans g4, f2.trans g5⟩⟩, ⟨ml, nsK l1, l2⟩⟩
theorem op_fdivN {X : Cx} {k : Nat} (hN : X.base.NoSeer) (hp : X.prog.given.tree = none) (hr : Room k X.A) (hk : 32 ≤ k) (hst : X.stack = X.env :: X.outer) (hg : X.env.scope.isGenerator = false) (hc : X.env.scope.isCoroutine = false) :
    OpR X (binaryOp .FloorDiv) (rI (fun _ j => 0 < j) fun i j => V.int (i / j)) := by
  intro pins s σ H x y v u Q I rx ry h
  obtain ⟨i, j, rfl, rfl, hj, q⟩ := h
  obtain ⟨t, rfl⟩ := rx
  obtain ⟨t', rfl⟩ := ry
  have hO := I.ok
  obtain ⟨n1, n2⟩ := noseer_now hN I
  have hd : X.A.depth + Builtin.pylongFrames < recursionLimit := by
    have h1 := hr.dp
    have h2 : recursionLimit = 1000 := rfl
    have h3 : Builtin.pylongFrames = 100 := rfl
    omega
  refine PyProof.Rows.floordiv_int (by omega) ?_ (.inr (PylongRoom.of n2 hd (SeerAt.of n1 hp (by rw [← hst]; exact hO.frames) hg hc hO.blt hO.glob)))
  rw [Int.fdiv_eq_ediv_of_nonneg i (by omega)]
  exact ⟨.int (i / j), H, I.tok _, ⟨_, rfl⟩, q⟩
end NL

namespace NL
open PySem PySem.Spec PyProof.Rows L2

/-! ### frames: what stays while the list of draws at d is used up -/
structure Go (d : Addr) (H H' : Hp) : Prop where
  fr : ∀ b o, b ≠ d → H b = some o → H' b = some o
  dr : ∃ ns : List Int, H' d = some (.lst (ns.map V.int))
abbrev Dr (H : Hp) (d : Addr) : Prop := ∃ ns : List Int, H d = some (.lst (ns.map V.int))
theorem Go.refl {d : Addr} {H : Hp} (h : Dr H d) : Go d H H := ⟨fun _ _ _ e => e, h⟩
theorem Go.trans {d : Addr} {H H1 H2 : Hp} (a : Go d H H1) (b : Go d H1 H2) : Go d H H2 := ⟨fun c o n e => b.fr c o n (a.fr c o n e), b.dr⟩
theorem Go.new {d p : Addr} {H : Hp} {o : HO} (h : Dr H d) (hp : H p = none) : Go d H (upd H p o) := by
  obtain ⟨ns, e⟩ := h
  have n : d ≠ p := ne_of_none e hp
  exact ⟨fun b u _ q => by rw [upd_ne (ne_of_none q hp)]; exact q, ⟨ns, by rw [upd_ne n]; exact e⟩⟩
theorem Go.put {d : Addr} {H : Hp} (ns : List Int) : Go d H (upd H d (.lst (ns.map V.int))) := ⟨fun b u n q => by rw [upd_ne n]; exact q, ⟨ns, upd_same⟩⟩
theorem Go.same {d : Addr} {H H' : Hp} (h : Dr H d) (s : Same H H') : Go d H H' := ⟨fun b o _ e => s b o e, by obtain ⟨ns, e⟩ := h; exact ⟨ns, s _ _ e⟩⟩
theorem Go.tup {d a : Addr} {H H' : Hp} {xs : List V} (g : Go d H H') (h : Dr H d) (e : H a = some (.tup xs)) : H' a = some (.tup xs) := by
  refine g.fr a _ ?_ e
  rintro rfl
  obtain ⟨ns, q⟩ := h
  rw [e] at q; cases q
theorem same_new {H : Hp} {p : Addr} (h : H p = none) (o : HO) : Same H (upd H p o) := fun b u q => by rw [upd_ne (ne_of_none q h)]; exact q
/-- all tuples stay -/
def Tp (H H' : Hp) : Prop := ∀ a xs, H a = some (.tup xs) → H' a = some (.tup xs)
theorem Go.tp {d : Addr} {H H' : Hp} (g : Go d H H') (h : Dr H d) : Tp H H' := fun _ _ e => g.tup h e
theorem Tp.same {H H' : Hp} (s : Same H H') : Tp H H' := fun _ _ e => s _ _ e
theorem Tp.trans {H H1 H2 : Hp} (a : Tp H H1) (b : Tp H1 H2) : Tp H H2 := fun x y e => b x y (a x y e)
theorem Tp.refl {H : Hp} : Tp H H := fun _ _ e => e
/-- a list that stays readable whatever is drawn at d -/
def Keep (K : PySem.W.Frag) (d : Addr) (H : Hp) (a : Addr) (xs : List V) : Prop := ∀ H', (∀ b o, b ≠ d → H b = some o → H' b = some o) → SqL K H' a xs
theorem Keep.now {K : PySem.W.Frag} {d a : Addr} {H : Hp} {xs : List V} (k : Keep K d H a xs) : SqL K H a xs := k H fun _ _ _ e => e
theorem Keep.go {K : PySem.W.Frag} {d a : Addr} {H H' : Hp} {xs : List V} (k : Keep K d H a xs) (g : Go d H H') : Keep K d H' a xs := fun H2 f => k H2 fun b o n e => f b o n (g.fr b o n e)
theorem Keep.of {K : PySem.W.Frag} {d a : Addr} {H : Hp} {xs : List V} (n : a ≠ d) (h : H a = some (.lst xs)) : Keep K d H a xs := fun H' f => .inl (.inl (f a _ n h))
/-- what was read ahead of the draws' list stays -/
theorem Keep.old {K : PySem.W.Frag} {d a : Addr} {H0 H : Hp} {xs : List V} (h : SqL K H0 a xs) (hd : H0 d = none) (f : ∀ b o, H0 b = some o → H b = some o) : Keep K d H a xs := fun H' g => by
  rcases h with (h | ⟨o, h⟩) | h
  · exact .inl (.inl (g a _ (ne_of_none h hd) (f _ _ h)))
  · exact .inl (.inr ⟨o, g a _ (ne_of_none h hd) (f _ _ h)⟩)
  · exact .inr h

/-! ### rules whose written part is named (in a comprehension) -/
theorem ix_tupK {X : Cx} {K : PySem.W.Frag} (h : X.K = K) : IxR X (rIxT K) := by subst h; exact ix_tup
theorem ix_listK {X : Cx} {K : PySem.W.Frag} (h : X.K = K) : IxR X (rIxL K) := by subst h; exact ix_list
def rTupOf (K : PySem.W.Frag) : List V → Hp → VK → Prop := fun xs H Q => ∃ p ys, xs = [.ref p] ∧ ((SqL K H p ys ∧ ∀ l, H l = none → Q (.ref l) (upd H l (.tup ys))) ∨ (SqT K H p ys ∧ Q (.ref p) H))
theorem call_tuple_ofK {X : Cx} {K : PySem.W.Frag} (h : X.K = K) : CallR X (.type "tuple") (rTupOf K) := by subst h; exact call_tuple_of
/-! ### texts and words -/
/-- signs a to z alone -/
def Wd (z : Str) : Prop := ∀ c ∈ z.cps.toList, 97 ≤ c ∧ c ≤ 122
instance (z : Str) : Decidable (Wd z) := by unfold Wd; infer_instance
def res : List Str := ["true", "false", "add", "sub", "mul", "div", "mod", "min", "max", "abs", "if", "less", "equal", "not", "all", "any"]
theorem app_list (a b : Str) : (a ++ b).cps.toList = a.cps.toList ++ b.cps.toList := by
  show (a.cps ++ b.cps).toList = _
  simp
theorem len_list (a : Str) : a.length = a.cps.toList.length := by
  show a.cps.size = _
  simp
theorem len_app (a b : Str) : (a ++ b).length = a.length + b.length := by
  rw [len_list, app_list, List.length_append, ← len_list, ← len_list]
theorem str_ext {a b : Str} (h : a.cps.toList = b.cps.toList) : a = b := by
  cases a with | mk x => cases b with | mk y =>
  have : x = y := Array.toList_inj.mp h
  rw [this]
theorem Wd.app {a b : Str} (ha : Wd a) (hb : Wd b) : Wd (a ++ b) := fun c hc => by
  rw [app_list] at hc
  rcases List.mem_append.mp hc with h | h
  · exact ha c h
  · exact hb c h
structure Nam (z : Str) : Prop where
  wd : Wd z
  len : 0 < z.length ∧ z.length ≤ 200
  nr : z ∉ res
structure Nm (z : Str) : Prop where
  wd : Wd z
  len : 0 < z.length ∧ z.length ≤ 150

/-! ### lists at an index -/
theorem atI_mem {α : Type} {xs : List α} {i : Int} (h0 : 0 ≤ i) (h1 : i < xs.length) : ∃ v, atI xs i = some v ∧ v ∈ xs := by
  have hk : i.toNat < xs.length := by omega
  have ek : i = ((i.toNat : Nat) : Int) := by omega
  have q : atI xs ((i.toNat : Nat) : Int) = some xs[i.toNat] := atI_nat (List.getElem?_eq_getElem hk)
  rw [← ek] at q
  exact ⟨_, q, List.getElem_mem hk⟩
theorem atI_map {α β : Type} {f : α → β} {xs : List α} {i : Int} (h0 : 0 ≤ i) (h1 : i < xs.length) : ∃ v, atI (xs.map f) i = some (f v) ∧ v ∈ xs := by
  obtain ⟨v, h, m⟩ := atI_mem (xs := xs.map f) h0 (by rw [List.length_map]; exact h1)
  obtain ⟨u, hu, rfl⟩ := List.mem_map.mp m
  exact ⟨u, h, hu⟩
theorem sqd {K : PySem.W.Frag} {H : Hp} {a : Addr} {xs : List V} (h : H a = some (.lst xs)) : SqL K H a xs := .inl (.inl h)
theorem sqt {K : PySem.W.Frag} {H : Hp} {a : Addr} {xs : List V} (h : H a = some (.tup xs)) : SqT K H a xs := .inl (.inl h)
theorem int_eq {i j : Int} (h : decide (V.int i = V.int j) = true) : i = j := V.int.inj (of_decide_eq_true h)
theorem int_ne {i j : Int} (h : ¬ decide (V.int i = V.int j) = true) : i ≠ j := fun e => h (decide_eq_true (by rw [e]))
section
variable {P : Program} {w : World} {K : PySem.W.Frag} {mg : Str → Option Value} {base : Heap}
/-! ### _law_take -/
def spTake : Sp := fun vs H Q _ => ∃ (d : Addr) (m : Int), vs = [.ref d, .int m] ∧ Dr H d ∧ 0 < m ∧ ∀ r H', Go d H H' → 0 ≤ r → r < m → Q (.int r) H'
theorem ok_law_take (T : Txt K mg) : FnOk P w K mg base CX0 1 T.a_law_take T.d_law_take P_law_take spTake := by
  refine T.F_law_take.ok sc_law_take (fun vs H Q E h => ?_) (fun cdv A outer s H vs Q E hr h => ?_)
  · obtain ⟨d, m, rfl, _⟩ := h
    rfl
  obtain ⟨d, m, rfl, hD, hm, q⟩ := h
  refine ⟨_, (pss_cons (ps_if (pt_cmpR op_eq (pe_callB call_len_seq (by rfl) T.z_len PySem.boot_len (pa_cons (pv 0) pa_nil)) pe_int (nomark _))
    (pss_one (ps_ret pe_int))
    pss_nil)
    (pss_one (ps_ret (pe_op op_mod (pe_callTy call_int1 (by rfl) T.z_int (by decide +kernel) (pa_cons (pe_bm0 PySem.F.plainAttrs_list PySem.F.slot_list_pop PySem.F.type_list_pop mt_pop (pv 0)) pa_nil)) (pv 1))))), ?_⟩
  obtain ⟨ns, hd⟩ := hD
  refine ⟨_, rfl, _, _, rfl, .inl (sqd hd), rfl, _, rfl, ?_⟩
  refine ite2 (fun c => ?_) (fun c => ?_)
  · exact q 0 H (Go.refl ⟨ns, hd⟩) (Int.le_refl 0) hm
  · have hn := int_ne c
    rw [List.length_map] at hn
    have hz : ns ≠ [] := by
      rintro rfl
      exact hn rfl
    have hl : 0 < ns.length := List.length_pos_iff.mpr hz
    have he : (ns.map V.int)[(ns.map V.int).length - 1]? = some (.int ns[ns.length - 1]) := by
      rw [List.length_map, List.getElem?_map, List.getElem?_eq_getElem (by omega)]
      rfl
    refine ⟨_, rfl, .inl ⟨rfl, _, sqd hd⟩, _, _, _, rfl, rfl, hd, he, .inl ⟨_, rfl, ?_⟩⟩
    refine ⟨_, rfl, _, _, rfl, rfl, hm, ?_⟩
    refine q _ _ ?_ (Int.emod_nonneg _ (by omega)) (Int.emod_lt_of_pos _ hm)
    rw [← List.map_dropLast]
    exact Go.put _
end
end NL

namespace NL
open PySem PySem.Spec PyProof.Rows L2
/-! ### a text times a number -/
theorem op_mulS {X : Cx} : OpR X (binaryOp .Mult) (fun x y H Q => ∃ (z : Str) (k : Int), x = .str z ∧ y = .int k ∧ z.length ≤ 16 ∧ 0 ≤ k ∧ k ≤ 1000 ∧ ((Txt.mul z k).length = z.length * k.toNat → Q (.str (Txt.mul z k)) H)) := by
  intro pins s σ H x y v u Q I rx ry h
  obtain ⟨z, k, rfl, rfl, hz, h0, h1, q⟩ := h
  obtain ⟨t, rfl⟩ := rx
  obtain ⟨t', rfl⟩ := ry
  refine PySem.W.KXi.mul rfl hz (by omega) (by omega) fun t' tk _ hl => ⟨.str (Txt.mul z k), H, I.tok _, ⟨_, rfl⟩, q ?_⟩
  have e := hl h0
  have e2 : k = ((k.toNat : Nat) : Int) := by omega
  rw [e2] at e
  have : ((z.length : Int) * ((k.toNat : Nat) : Int)) = ((z.length * k.toNat : Nat) : Int) := by push_cast; rfl
  rw [this] at e
  have e3 := Int.ofNat.inj e
  rw [← e2] at e3
  exact e3
def abc : Str := "abcdefghijklmnopqrstuvwxyz"
theorem abc_at {i : Int} (h0 : 0 ≤ i) (h1 : i < 26) : ∃ c, atI abc.cps.toList i = some c ∧ 97 ≤ c ∧ c ≤ 122 := by
  have hl : abc.cps.toList.length = 26 := by decide +kernel
  obtain ⟨c, h, m⟩ := atI_mem (xs := abc.cps.toList) h0 (by rw [hl]; exact h1)
  have hall : ∀ c ∈ abc.cps.toList, 97 ≤ c ∧ c ≤ 122 := by decide +kernel
  exact ⟨c, h, hall c m⟩
section
variable {P : Program} {w : World} {K : PySem.W.Frag} {mg : Str → Option Value} {base : Heap}
/-! ### _law_cell -/
def spCell (K : PySem.W.Frag) : Sp := fun vs H Q _ => ∃ (a d : Addr) (ns : List Int), vs = [.ref a, .ref d] ∧ Keep K d H a (ns.map V.int) ∧ Dr H d ∧ ∀ r H', Go d H H' → (r = 0 ∨ r ∈ ns) → Q (.int r) H'
theorem ok_law_cell (T : Txt K mg) : FnOk P w K mg base CX0 2 T.a_law_cell T.d_law_cell P_law_cell (spCell K) := by
  have G_law_take := ok_law_take (P := P) (w := w) (base := base) T
  refine T.F_law_cell.ok sc_law_cell (fun vs H Q E h => ?_) (fun cdv A outer s H vs Q E hr h => ?_)
  · obtain ⟨a, d, ns, rfl, _⟩ := h
    rfl
  obtain ⟨a, d, ns, rfl, hk, hD, q⟩ := h
  refine ⟨_, (pss_cons (ps_if (pt_cmpR op_eq (pe_callB call_len_seq (by rfl) T.z_len PySem.boot_len (pa_cons (pv 0) pa_nil)) pe_int (nomark _))
    (pss_one (ps_ret pe_int))
    pss_nil)
    (pss_one (ps_ret (pe_callTy call_int1 (by rfl) T.z_int (by decide +kernel) (pa_cons (pe_ix ix_list (pv 0) (pe_call G_law_take (hr.mono (by omega)) (by rfl) T.m_law_take T.F_law_take.kp T.b_law_take .nil pass0 (pa_cons (pv 1) (pa_cons (pe_callB call_len_seq (by rfl) T.z_len PySem.boot_len (pa_cons (pv 0) pa_nil)) pa_nil))) (fun _ _ => rfl)) pa_nil))))), ?_⟩
  refine ⟨_, rfl, _, _, rfl, .inl hk.now, rfl, _, rfl, ?_⟩
  refine ite2 (fun c => ?_) (fun c => ?_)
  · exact q 0 H (Go.refl hD) (.inl rfl)
  · have hn := int_ne c
    rw [List.length_map] at hn
    refine ⟨_, rfl, _, rfl, _, rfl, _, _, rfl, .inl hk.now, d, _, rfl, hD, by rw [List.length_map]; omega, fun r H1 g h0 h1 => ?_⟩
    rw [List.length_map] at h1
    obtain ⟨v, hv, hm⟩ := atI_map (f := V.int) h0 h1
    exact ⟨_, _, _, _, rfl, rfl, (hk.go g).now, hv, .inl ⟨_, rfl, q v H1 g (.inr hm)⟩⟩
/-! ### _law_word -/
def spWord : Sp := fun vs H Q _ => ∃ i : Int, vs = [.int i] ∧ ∀ z : Str, Wd z → z.length ≤ 60 → (1 ≤ i → 0 < z.length) → Q (.str z) H
theorem ok_law_word (T : Txt K mg) : FnOk P w K mg base CX0 1 T.a_law_word T.d_law_word P_law_word spWord := by
  refine T.F_law_word.ok sc_law_word (fun vs H Q E h => ?_) (fun cdv A outer s H vs Q E hr h => ?_)
  · obtain ⟨i, rfl, _⟩ := h
    rfl
  obtain ⟨i0, rfl, q⟩ := h
  refine ⟨_, (pss_cons (ps_set (i := 1) sc_law_word.nd rfl (Or.inl rfl) pe_str)
    (pss_cons (ps_for PassesOwn.never rfl (pi_range1 (by rfl) T.z_range (pa_cons pe_int pa_nil)) (pg_name (i := 2) sc_law_word.nd rfl (Or.inl rfl))
    (pss_cons (ps_if (pt_cmpR op_lt (pv 0) pe_int (nomark _))
    (pss_one ps_break)
    pss_nil)
    (pss_cons (ps_set (i := 1) sc_law_word.nd rfl (Or.inl rfl) (pe_op op_add_str (pe_ix ix_str pe_str (pe_op op_mod (pe_callTy call_int1 (by rfl) T.z_int (by decide +kernel) (pa_cons (pe_op op_sub (pv 0) pe_int) pa_nil)) pe_int) (fun _ _ => rfl)) (pv 1)))
    (pss_one (ps_set (i := 0) sc_law_word.nd rfl (Or.inl rfl) (pe_op op_fdiv (pe_op op_sub (pv 0) pe_int) pe_int))))))
    (pss_one (ps_ret (pv 1))))), ?_⟩
  refine ⟨60, rfl, by decide, by decide, for_range (lo := 0) (n := 60) (fun j σ H' => ∃ (i : Int) (z : Str) (y : Option V), σ = [some (.int i), some (.str z), y] ∧ H' = H ∧ Wd z ∧ z.length ≤ j ∧ (j = 0 → i = i0) ∧ (0 < j → 0 < z.length)) ?_ ?_ ?_⟩
  · exact ⟨i0, _, none, rfl, rfl, (by decide +kernel), (by decide +kernel), fun _ => rfl, fun h => absurd h (by decide)⟩
  · rintro j σ H' hj ⟨i, z, y, rfl, rfl, hw, hz, e0, e1⟩
    refine ⟨_, rfl, _, _, rfl, rfl, _, rfl, ?_⟩
    refine ite2 (fun c => ?_) (fun c => ?_)
    · have hi : i < 1 := of_decide_eq_true c
      exact ⟨_, rfl, q z hw (by omega) fun h1 => e1 (by
        rcases Nat.eq_zero_or_pos j with e | e
        · have := e0 e
          omega
        · exact e)⟩
    · obtain ⟨ch, hc, hc1⟩ := abc_at (Int.emod_nonneg (i - 1) (by decide : (26 : Int) ≠ 0)) (Int.emod_lt_of_pos (i - 1) (by decide))
      have hw1 : Wd (⟨#[ch]⟩ : Str) := fun c h => by
        have : c = ch := by simpa using h
        rw [this]
        exact hc1
      have hl : ((⟨#[ch]⟩ : Str) ++ z).length = 1 + z.length := by rw [len_app] <;> rfl
      refine ⟨_, rfl, _, _, rfl, rfl, .inl ⟨_, rfl, _, _, rfl, rfl, (by show (0 : Int) < 26; decide), _, _, ch, rfl, rfl, (by decide +kernel), hc, _, rfl, _, _, rfl, rfl, ?_, ?_⟩⟩
      · have : (⟨#[ch]⟩ : Str).length = 1 := rfl
        rw [this]
        exact Nat.le_of_lt (small1000 (by omega))
      · refine ⟨_, rfl, _, _, rfl, rfl, _, _, rfl, rfl, ⟨by decide, by decide⟩, ?_⟩
        exact ⟨_, _, _, rfl, rfl, hw1.app hw, by rw [hl]; omega, fun h => absurd h (by omega), fun _ => by rw [hl]; omega⟩
  · rintro σ H' ⟨i, z, y, rfl, rfl, hw, hz, e0, e1⟩
    exact ⟨_, rfl, q z hw hz fun _ => e1 (by decide)⟩
end
end NL

namespace NL
open PySem PySem.Spec PyProof.Rows L2
section
variable {P : Program} {w : World} {K : PySem.W.Frag} {mg : Str → Option Value} {base : Heap}
/-! ### _law_some_word -/
theorem fold_wd {p : Nat → Prop} : ∀ (l : List (Array Nat)) (acc : Array Nat), (∀ c ∈ acc.toList, p c) → (∀ a ∈ l, ∀ c ∈ a.toList, p c) → ∀ c ∈ (l.foldl (· ++ ·) acc).toList, p c
  | [], acc, h, _, c, hc => h c hc
  | a :: r, acc, h, g, c, hc => by
    refine fold_wd r (acc ++ a) (fun c hc => ?_) (fun a ha => g a (List.mem_cons_of_mem _ ha)) c hc
    rw [Array.toList_append] at hc
    rcases List.mem_append.mp hc with h1 | h1
    · exact h c h1
    · exact g a List.mem_cons_self c h1
theorem mul_wd {z : Str} (h : Wd z) (k : Int) : Wd (Txt.mul z k) := by
  unfold Txt.mul
  split
  · decide
  · split
    · exact h
    · refine fold_wd _ _ (fun c hc => by simp at hc) fun a ha => ?_
      rw [(List.mem_replicate.mp ha).2]
      exact h
def spSomeWord : Sp := fun vs H Q _ => ∃ d : Addr, vs = [.ref d] ∧ Dr H d ∧ ∀ z H', Go d H H' → Nm z → Q (.str z) H'
theorem ok_law_some_word (T : Txt K mg) : FnOk P w K mg base CX0 2 T.a_law_some_word T.d_law_some_word P_law_some_word spSomeWord := by
  have G_law_take := ok_law_take (P := P) (w := w) (base := base) T
  have G_law_word := ok_law_word (P := P) (w := w) (base := base) T
  refine T.F_law_some_word.ok sc_law_some_word (fun vs H Q E h => ?_) (fun cdv A outer s H vs Q E hr h => ?_)
  · obtain ⟨d, rfl, _⟩ := h
    rfl
  obtain ⟨d, rfl, hD, q⟩ := h
  refine ⟨_, (pss_cons (ps_set (i := 1) sc_law_some_word.nd rfl (Or.inl rfl) (pe_call G_law_take (hr.mono (by omega)) (by rfl) T.m_law_take T.F_law_take.kp T.b_law_take .nil pass0 (pa_cons (pv 0) (pa_cons pe_int pa_nil))))
    (pss_cons (ps_if (pt_cmpR op_lt (pv 1) pe_int (nomark _))
    (pss_one (ps_ret (pe_call G_law_word (hr.mono (by omega)) (by rfl) T.m_law_word T.F_law_word.kp T.b_law_word .nil pass0 (pa_cons (pe_op op_add (pe_op op_add pe_int (pe_op op_mod (pv 1) pe_int)) (pe_op op_mul pe_int (pe_op op_mod (pe_op op_fdiv (pv 1) pe_int) pe_int))) pa_nil))))
    pss_nil)
    (pss_cons (ps_if (pt_cmpR op_lt (pv 1) pe_int (nomark _))
    (pss_one (ps_ret (pe_call G_law_word (hr.mono (by omega)) (by rfl) T.m_law_word T.F_law_word.kp T.b_law_word .nil pass0 (pa_cons (pe_op op_add pe_int (pe_call G_law_take (hr.mono (by omega)) (by rfl) T.m_law_take T.F_law_take.kp T.b_law_take .nil pass0 (pa_cons (pv 0) (pa_cons pe_int pa_nil)))) pa_nil))))
    pss_nil)
    (pss_cons (ps_if (pt_cmpR op_lt (pv 1) pe_int (nomark _))
    (pss_one (ps_ret (pe_op op_add_str (pe_op op_mulS pe_str (pe_op op_add pe_int (pe_op op_mod (pe_callTy call_int1 (by rfl) T.z_int (by decide +kernel) (pa_cons (pv 1) pa_nil)) pe_int))) (pe_call G_law_word (hr.mono (by omega)) (by rfl) T.m_law_word T.F_law_word.kp T.b_law_word .nil pass0 (pa_cons (pe_op op_add pe_int (pe_call G_law_take (hr.mono (by omega)) (by rfl) T.m_law_take T.F_law_take.kp T.b_law_take .nil pass0 (pa_cons (pv 0) (pa_cons pe_int pa_nil)))) pa_nil)))))
    pss_nil)
    (pss_cons (ps_set (i := 2) sc_law_some_word.nd rfl (Or.inl rfl) (pe_op op_add (pe_op op_mul pe_int (pe_call G_law_take (hr.mono (by omega)) (by rfl) T.m_law_take T.F_law_take.kp T.b_law_take .nil pass0 (pa_cons (pv 0) (pa_cons pe_int pa_nil)))) (pe_op op_mul pe_int (pe_call G_law_take (hr.mono (by omega)) (by rfl) T.m_law_take T.F_law_take.kp T.b_law_take .nil pass0 (pa_cons (pv 0) (pa_cons pe_int pa_nil))))))
    (C8.pss_cut (ps_if (pt_cmpR op_ge (pv 1) pe_int (nomark _))
    (pss_one (ps_set (i := 2) sc_law_some_word.nd rfl (Or.inl rfl) (pe_op op_mul (pv 2) (pe_op op_pow pe_int pe_int))))
    pss_nil)
    (pss_one (ps_ret (pe_call G_law_word (hr.mono (by omega)) (by rfl) T.m_law_word T.F_law_word.kp T.b_law_word .nil pass0 (pa_cons (pe_op op_add (pe_op op_add pe_int (pv 2)) (pe_call G_law_take (hr.mono (by omega)) (by rfl) T.m_law_take T.F_law_take.kp T.b_law_take .nil pass0 (pa_cons (pv 0) (pa_cons pe_int pa_nil)))) pa_nil)))))))))), ?_⟩
  -- number = take(draws, 1000)
  refine ⟨_, rfl, d, _, rfl, hD, (by decide), fun n H1 g1 n0 n1 => ?_⟩
  -- if number < 600
  refine ⟨_, rfl, _, _, rfl, rfl, _, rfl, ?_⟩
  refine ite2 (fun c => ?_) (fun c => ?_)
  · refine ⟨_, rfl, _, _, rfl, rfl, (by show (0 : Int) < 6; decide), _, _, rfl, rfl, _, rfl, _, _, rfl, rfl, ⟨by decide, by decide⟩, _, _, rfl, rfl, (by show (0 : Int) < 2; decide), _, _, rfl, rfl, .inl ⟨by decide, by decide⟩, _, _, rfl, rfl, _, rfl, fun z hw hl hp => ?_⟩
    have b1 := Int.emod_nonneg n (by decide : (6 : Int) ≠ 0)
    have b2 := Int.emod_nonneg (n / 100) (by decide : (2 : Int) ≠ 0)
    exact q z H1 g1 ⟨hw, hp (by omega), by omega⟩
  -- if number < 850
  refine ⟨_, rfl, _, _, rfl, rfl, _, rfl, ?_⟩
  refine ite2 (fun c => ?_) (fun c => ?_)
  · refine ⟨_, rfl, d, _, rfl, g1.dr, (by decide), fun r H2 g2 r0 r1 => ?_⟩
    refine ⟨_, _, rfl, rfl, _, rfl, fun z hw hl hp => ?_⟩
    exact q z H2 (g1.trans g2) ⟨hw, hp (by omega), by omega⟩
  -- if number < 875
  refine ⟨_, rfl, _, _, rfl, rfl, _, rfl, ?_⟩
  refine ite2 (fun c => ?_) (fun c => ?_)
  · have b1 := Int.emod_nonneg n (by decide : (6 : Int) ≠ 0)
    have b2 := Int.emod_lt_of_pos n (by decide : (0 : Int) < 6)
    refine ⟨_, rfl, .inl ⟨_, rfl, _, _, rfl, rfl, (by show (0 : Int) < 6; decide), _, _, rfl, rfl, _, _, rfl, rfl, (by decide +kernel), (by omega), (by omega), fun hm => ?_⟩⟩
    refine ⟨_, rfl, d, _, rfl, g1.dr, (by decide), fun r H2 g2 r0 r1 => ?_⟩
    refine ⟨_, _, rfl, rfl, _, rfl, fun z hw hl hp => ?_⟩
    have l12 : ("abcdefghijkl" : Str).length = 12 := by decide +kernel
    have w12 : Wd ("abcdefghijkl" : Str) := by decide +kernel
    rw [l12] at hm
    have hb : (1 + n % 6).toNat ≤ 6 := by omega
    have hp' := hp (by omega)
    refine ⟨_, _, rfl, rfl, ?_, q _ H2 (g1.trans g2) ⟨(mul_wd w12 _).app hw, ?_, ?_⟩⟩
    · rw [hm]
      exact Nat.le_of_lt (small1000 (by omega))
    · rw [len_app]; omega
    · rw [len_app, hm]; omega
  -- great = ..
  refine ⟨_, rfl, d, _, rfl, g1.dr, (by decide), fun r H2 g2 r0 r1 => ?_⟩
  refine ⟨_, _, rfl, rfl, .inl ⟨by decide, by decide⟩, ?_⟩
  refine ⟨_, rfl, d, _, rfl, g2.dr, (by decide), fun t H3 g3 t0 t1 => ?_⟩
  refine ⟨_, _, rfl, rfl, .inl ⟨by decide, by decide⟩, _, _, rfl, rfl, ?_⟩
  refine ⟨fun σ H4 => ∃ gr : Int, 0 ≤ gr ∧ σ = [some (.ref d), some (.int n), some (.int gr)] ∧ Go d H H4, ?_, ?_⟩
  · refine ⟨_, rfl, _, _, rfl, rfl, _, rfl, ?_⟩
    refine ite2 (fun c => ?_) (fun c => ?_)
    · refine ⟨_, rfl, _, _, rfl, rfl, ⟨by decide, by decide, by decide⟩, _, _, rfl, rfl, ?_, ?_⟩
      · left
        constructor <;> omega
      · refine ⟨_, ?_, rfl, (g1.trans g2).trans g3⟩
        have : (0 : Int) ≤ 10 ^ (Int.toNat 15) := by decide
        exact Int.mul_nonneg (by omega) this
    · exact ⟨_, by omega, rfl, (g1.trans g2).trans g3⟩
  · rintro σ H4 ⟨gr, hg, rfl, g4⟩
    refine ⟨_, rfl, _, _, rfl, rfl, _, rfl, d, _, rfl, g4.dr, (by decide), fun u H5 g5 u0 u1 => ?_⟩
    refine ⟨_, _, rfl, rfl, _, rfl, fun z hw hl hp => ?_⟩
    exact q z H5 (g4.trans g5) ⟨hw, hp (by omega), by omega⟩
/-! ### _law_reserved -/
def spReserved : Sp := fun vs H Q _ => vs = [] ∧ ∀ p H', Same H H' → H p = none → H' p = some (.lst (res.map V.str)) → Q (.ref p) H'
theorem ok_law_reserved (T : Txt K mg) : FnOk P w K mg base CX0 1 T.a_law_reserved T.d_law_reserved P_law_reserved spReserved := by
  refine T.F_law_reserved.ok sc_law_reserved (fun vs H Q E h => ?_) (fun cdv A outer s H vs Q E hr h => ?_)
  · obtain ⟨rfl, _⟩ := h
    rfl
  obtain ⟨rfl, q⟩ := h
  refine ⟨_, (pss_cons (ps_set (i := 0) sc_law_reserved.nd rfl (Or.inl rfl) (pe_lst (pa_cons pe_str (pa_cons pe_str (pa_cons pe_str (pa_cons pe_str (pa_cons pe_str (pa_cons pe_str (pa_cons pe_str (pa_cons pe_str (pa_cons pe_str (pa_cons pe_str pa_nil))))))))))))
    (pss_one (ps_ret (pe_op op_cat (pv 0) (pe_lst (pa_cons pe_str (pa_cons pe_str (pa_cons pe_str (pa_cons pe_str (pa_cons pe_str (pa_cons pe_str pa_nil))))))))))), ?_⟩
  refine ⟨(by decide), fun p hp => ?_⟩
  refine ⟨_, rfl, (by decide), fun p2 hp2 => ?_⟩
  have n12 : p ≠ p2 := ne_of_none upd_same hp2
  refine ⟨_, _, _, _, rfl, rfl, (by rw [upd_ne n12]; exact upd_same), upd_same, (by decide), fun p3 hp3 => ?_⟩
  refine q p3 _ ?_ ?_ ?_
  · exact (same_new hp _).trans ((same_new hp2 _).trans (same_new hp3 _))
  · exact ((same_new hp _).trans (same_new hp2 _)).free hp3
  · rw [upd_same]
    rfl
end
end NL

namespace NL
open PySem PySem.Spec PyProof.Rows L2
/-! ### the tree of an expression or a condition -/
inductive It where
  | num (n : Int)
  | name (x : Str)
  | lit (b : Bool)
  | un (w : Str) (a : It)
  | dm (w : Str) (a : It) (n : Int)
  | bin (w : Str) (a b : It)
  | tri (a b c : It)
  | grp (w : Str) (l : List It)
def bstr (b : Bool) : Str := if b then "true" else "false"
/-- the tree stands at v -/
inductive ItemIn (H : Hp) : It → V → Prop where
  | num {n a} : H a = some (.tup [.str "number", .int n]) → ItemIn H (.num n) (.ref a)
  | name {x a} : H a = some (.tup [.str "name", .str x]) → ItemIn H (.name x) (.ref a)
  | lit {b a} : H a = some (.tup [.str (bstr b)]) → ItemIn H (.lit b) (.ref a)
  | un {w i a x} : H a = some (.tup [.str w, x]) → ItemIn H i x → ItemIn H (.un w i) (.ref a)
  | dm {w i n a x} : H a = some (.tup [.str w, x, .int n]) → ItemIn H i x → ItemIn H (.dm w i n) (.ref a)
  | bin {w i j a x y} : H a = some (.tup [.str w, x, y]) → ItemIn H i x → ItemIn H j y → ItemIn H (.bin w i j) (.ref a)
  | tri {i j k a x y z} : H a = some (.tup [.str "if", x, y, z]) → ItemIn H i x → ItemIn H j y → ItemIn H k z → ItemIn H (.tri i j k) (.ref a)
  | grp {w l a b xs} : H a = some (.tup [.str w, .ref b]) → H b = some (.tup xs) → xs.length = l.length → (∀ (k : Nat) i x, l[k]? = some i → xs[k]? = some x → ItemIn H i x) → ItemIn H (.grp w l) (.ref a)
theorem ItemIn.mono {H H' : Hp} (t : Tp H H') {i : It} {v : V} (h : ItemIn H i v) : ItemIn H' i v := by
  induction h with
  | num e => exact .num (t _ _ e)
  | name e => exact .name (t _ _ e)
  | lit e => exact .lit (t _ _ e)
  | un e _ ih => exact .un (t _ _ e) ih
  | dm e _ ih => exact .dm (t _ _ e) ih
  | bin e _ _ ih jh => exact .bin (t _ _ e) ih jh
  | tri e _ _ _ ih jh kh => exact .tri (t _ _ e) ih jh kh
  | grp e f g _ ih => exact .grp (t _ _ e) (t _ _ f) g ih
theorem ItemIn.go {d : Addr} {H H' : Hp} {i : It} {v : V} (h : ItemIn H i v) (g : Go d H H') (hD : Dr H d) : ItemIn H' i v := h.mono (g.tp hD)
theorem ItemIn.ref {H : Hp} {i : It} {v : V} (h : ItemIn H i v) : ∃ a, v = .ref a := by cases h <;> exact ⟨_, rfl⟩
mutual
def It.dep : It → Nat
  | .num _ => 1
  | .name _ => 1
  | .lit _ => 1
  | .un _ a => 1 + a.dep
  | .dm _ a _ => 1 + a.dep
  | .bin _ a b => 1 + max a.dep b.dep
  | .tri a b c => 1 + max a.dep (max b.dep c.dep)
  | .grp _ l => 1 + depL l
def depL : List It → Nat
  | [] => 0
  | a :: r => max a.dep (depL r)
end
mutual
def It.sz : It → Nat
  | .num _ => 1
  | .name _ => 1
  | .lit _ => 1
  | .un _ a => 1 + a.sz
  | .dm _ a _ => 1 + a.sz
  | .bin _ a b => 1 + a.sz + b.sz
  | .tri a b c => 1 + a.sz + b.sz + c.sz
  | .grp _ l => 1 + szL l
def szL : List It → Nat
  | [] => 0
  | a :: r => a.sz + szL r
end
/-- of the right kinds: conditions (true) and expressions (false), over names, ints within B -/
inductive Okx (xs : List Str) (B : Nat) : Bool → It → Prop where
  | num {n} : n.natAbs ≤ B → Okx xs B false (.num n)
  | name {x} : x ∈ xs → Okx xs B false (.name x)
  | lit {b} : Okx xs B true (.lit b)
  | abs {a} : Okx xs B false a → Okx xs B false (.un "abs" a)
  | not {a} : Okx xs B true a → Okx xs B true (.un "not" a)
  | dm {w a n} : w ∈ (["div", "mod"] : List Str) → Okx xs B false a → 1 ≤ n → n.natAbs ≤ B + 1 → Okx xs B false (.dm w a n)
  | bin {w a b} : w ∈ (["add", "sub", "mul", "min", "max"] : List Str) → Okx xs B false a → Okx xs B false b → Okx xs B false (.bin w a b)
  | cmp {w a b} : w ∈ (["less", "equal"] : List Str) → Okx xs B false a → Okx xs B false b → Okx xs B true (.bin w a b)
  | tri {a b c} : Okx xs B true a → Okx xs B false b → Okx xs B false c → Okx xs B false (.tri a b c)
  | grp {w l} : w ∈ (["all", "any"] : List Str) → l.length ≤ 100 → (∀ i ∈ l, Okx xs B true i) → Okx xs B true (.grp w l)
theorem dep_pos : ∀ i : It, 1 ≤ i.dep
  | .num _ => by rw [It.dep]; omega
  | .name _ => by rw [It.dep]; omega
  | .lit _ => by rw [It.dep]; omega
  | .un _ a => by rw [It.dep]; omega
  | .dm _ a _ => by rw [It.dep]; omega
  | .bin _ a b => by rw [It.dep]; omega
  | .tri a b c => by rw [It.dep]; omega
  | .grp _ l => by rw [It.dep]; omega
section
variable {P : Program} {w : World} {K : PySem.W.Frag} {mg : Str → Option Value} {base : Heap}
/-! ### _law_name -/
theorem flat_res : (res.map V.str).all flatV = true := by decide +kernel
theorem flat_strs' (ys : List Str) : (ys.map V.str).all flatV = true := by
  rw [List.all_map]
  exact List.all_eq_true.mpr fun _ _ => rfl
theorem inV_str {x : Str} {ys : List Str} : inV (.str x) (ys.map V.str) = decide (x ∈ ys) := by
  unfold inV
  rw [List.any_map]
  induction ys with
  | nil => rfl
  | cons y r ih =>
    rw [List.any_cons, ih]
    show (eqV (.str y) (.str x) || _) = _
    have e : eqV (.str y) (.str x) = decide (x = y) := by
      show (y == x) = _
      rw [Bool.beq_eq_decide_eq]
      exact decide_eq_decide.mpr ⟨fun h => h.symm, fun h => h.symm⟩
    rw [e]
    by_cases h : x = y
    · rw [decide_eq_true h, decide_eq_true (List.mem_cons.mpr (.inl h)), Bool.true_or]
    · rw [decide_eq_false h, Bool.false_or]
      exact decide_eq_decide.mpr ⟨fun m => List.mem_cons_of_mem _ m, fun m => (List.mem_cons.mp m).resolve_left h⟩
theorem res_wd : ∀ z ∈ res, Wd z ∧ 2 ≤ z.length ∧ z.length ≤ 5 := by decide +kernel
theorem not_x : ∀ z ∈ res, ∀ y ∈ res, y ++ ("x" : Str) ≠ z := by decide +kernel
def spName : Sp := fun vs H Q _ => ∃ d : Addr, vs = [.ref d] ∧ Dr H d ∧ ∀ z H', Go d H H' → Nam z → Q (.str z) H'
theorem wd_cut {z : Str} (h : Wd z) (lo hi : Option Int) : Wd (cutS z lo hi) := fun c hc => by
  refine h c ?_
  unfold cutS at hc
  exact List.mem_of_mem_drop (List.mem_of_mem_take (by simpa using hc))
theorem len_cut1 {z : Str} (h : 2 ≤ z.length) : (cutS z none (some (-1))).length = z.length - 1 := by
  rw [len_list]
  unfold cutS
  rw [HT.sIx_none, show HT.sIx z.length z.length (some (-1)) = z.length - 1 by
    show (if (-1 : Int) < 0 then ((-1 : Int) + (z.length : Int)).toNat else min (-1 : Int).toNat z.length) = z.length - 1
    rw [if_pos (by decide)]
    omega]
  rw [List.toList_toArray, List.length_take, List.length_drop, ← len_list]
  omega
theorem ok_law_name (T : Txt K mg) : FnOk P w K mg base CX0 3 T.a_law_name T.d_law_name P_law_name spName := by
  have G_law_take := ok_law_take (P := P) (w := w) (base := base) T
  have G_law_some_word := ok_law_some_word (P := P) (w := w) (base := base) T
  have G_law_reserved := ok_law_reserved (P := P) (w := w) (base := base) T
  refine T.F_law_name.ok sc_law_name (fun vs H Q E h => ?_) (fun cdv A outer s H vs Q E hr h => ?_)
  · obtain ⟨d, rfl, _⟩ := h
    rfl
  obtain ⟨d, rfl, hD, q⟩ := h
  refine ⟨_, (pss_cons (ps_set (i := 1) sc_law_name.nd rfl (Or.inl rfl) (pe_call0 G_law_reserved (hr.mono (by omega)) (by rfl) T.m_law_reserved T.F_law_reserved.kp T.b_law_reserved .nil pass0))
    (pss_cons (ps_set (i := 2) sc_law_name.nd rfl (Or.inl rfl) (pe_call G_law_some_word (hr.mono (by omega)) (by rfl) T.m_law_some_word T.F_law_some_word.kp T.b_law_some_word .nil pass0 (pa_cons (pv 0) pa_nil)))
    (C8.pss_cut (ps_if (pt_cmpR op_eq (pe_call G_law_take (hr.mono (by omega)) (by rfl) T.m_law_take T.F_law_take.kp T.b_law_take .nil pass0 (pa_cons (pv 0) (pa_cons pe_int pa_nil))) pe_int (nomark _))
    (pss_cons (ps_set (i := 3) sc_law_name.nd rfl (Or.inl rfl) (pe_ix ix_list (pv 1) (pe_call G_law_take (hr.mono (by omega)) (by rfl) T.m_law_take T.F_law_take.kp T.b_law_take .nil pass0 (pa_cons (pv 0) (pa_cons pe_int pa_nil))) (fun _ _ => rfl)))
    (pss_one (ps_set (i := 2) sc_law_name.nd rfl (Or.inl rfl) (pe_ix ix_list (pe_lst (pa_cons (pe_op op_add_str (pv 3) pe_str) (pa_cons (pe_slice sl_str (pv 3) po_none (po_some (pe_un un_neg pe_int))) (pa_cons (pe_op op_add_str pe_str (pv 3)) pa_nil)))) (pe_call G_law_take (hr.mono (by omega)) (by rfl) T.m_law_take T.F_law_take.kp T.b_law_take .nil pass0 (pa_cons (pv 0) (pa_cons pe_int pa_nil))) (fun _ _ => rfl)))))
    pss_nil)
    (pss_cons (ps_if (pt_cmpR op_in_seq (pv 2) (pv 1) (by rfl))
    (pss_one (ps_ret (pe_op op_add_str (pv 2) pe_str)))
    pss_nil)
    (pss_one (ps_ret (pv 2))))))), ?_⟩
  refine ⟨rfl, fun kn H1 s1 n1 e1 => ?_⟩
  have hn : kn ≠ d := by
    rintro rfl
    obtain ⟨ns, hd⟩ := hD
    rw [n1] at hd; cases hd
  have g1 : Go d H H1 := .same hD s1
  have k1 : Keep K d H1 kn (res.map V.str) := .of hn e1
  refine ⟨_, rfl, d, rfl, g1.dr, fun z H2 g2 hz => ?_⟩
  refine ⟨fun σ H4 => ∃ (z : Str) (y : Option V), Nm z ∧ σ = [some (.ref d), some (.ref kn), some (.str z), y] ∧ Go d H1 H4, ?_, ?_⟩
  · refine ⟨_, rfl, d, _, rfl, g2.dr, (by decide), fun r H3 g3 r0 r1 => ?_⟩
    refine ⟨rfl, _, rfl, ?_⟩
    refine ite2 (fun c => ?_) (fun c => ?_)
    · refine ⟨_, rfl, _, rfl, d, _, rfl, g3.dr, (by decide), fun t H4 g4 t0 t1 => ?_⟩
      obtain ⟨nr, h1, h2⟩ := atI_map (f := V.str) (xs := res) t0 t1
      refine ⟨_, _, _, _, rfl, rfl, ((k1.go g2).go (g3.trans g4)).now, h1, ?_⟩
      obtain ⟨w1, w2, w3⟩ := res_wd nr h2
      have ws : Wd ("s" : Str) ∧ ("s" : Str).length = 1 ∧ Wd ("a" : Str) ∧ ("a" : Str).length = 1 := by decide +kernel
      have sz : ∀ n, n ≤ 1000 → n ≤ sizeLine := fun n h => Nat.le_of_lt (small1000 h)
      refine ⟨_, rfl, _, _, rfl, rfl, sz _ (by rw [ws.2.1]; omega), _, rfl, _, rfl, _, rfl, _, rfl, sz _ (by omega), _, rfl, _, _, rfl, rfl, sz _ (by rw [ws.2.2.2]; omega), (Nat.le_of_ble_eq_true rfl), fun p hp => ?_⟩
      have dp := g4.dr
      have g5 := fun o => Go.new (o := o) dp hp
      refine ⟨_, rfl, d, _, rfl, (g5 _).dr, (by decide), fun u H6 g6 u0 u1 => ?_⟩
      have np : p ≠ d := by
        rintro rfl
        obtain ⟨ns, hd⟩ := dp
        rw [hp] at hd; cases hd
      have e6 := g6.fr p _ np upd_same
      have l1 : Nm (nr ++ ("s" : Str)) := ⟨w1.app ws.1, by rw [len_app]; omega, by rw [len_app, ws.2.1]; omega⟩
      have l2 : Nm (cutS nr none (some (-1))) := ⟨wd_cut w1 _ _, by rw [len_cut1 w2]; omega, by rw [len_cut1 w2]; omega⟩
      have l3 : Nm (("a" : Str) ++ nr) := ⟨ws.2.2.1.app w1, by rw [len_app]; omega, by rw [len_app, ws.2.2.2]; omega⟩
      obtain ⟨v, hv, hm⟩ := atI_map (f := V.str) (xs := [nr ++ ("s" : Str), cutS nr none (some (-1)), ("a" : Str) ++ nr]) u0 u1
      refine ⟨_, _, _, _, rfl, rfl, sqd e6, hv, ?_⟩
      refine ⟨v, _, ?_, rfl, g2.trans (g3.trans (g4.trans ((g5 _).trans g6)))⟩
      simp only [List.mem_cons, List.not_mem_nil, or_false] at hm
      rcases hm with rfl | rfl | rfl
      · exact l1
      · exact l2
      · exact l3
    · exact ⟨z, none, hz, rfl, g2.trans g3⟩
  · rintro σ H4 ⟨z, y, hz, rfl, g4⟩
    refine ⟨_, rfl, _, rfl, _, _, rfl, .inl (k1.go g4).now, rfl, flat_res, _, rfl, ?_⟩
    rw [inV_str]
    refine ite2 (fun c => ?_) (fun c => ?_)
    · have hm : z ∈ res := of_decide_eq_true c
      have wx : Wd ("x" : Str) ∧ ("x" : Str).length = 1 := by decide +kernel
      refine ⟨_, rfl, _, _, rfl, rfl, ?_, q _ H4 (g1.trans g4) ⟨hz.wd.app wx.1, ?_, fun h => not_x _ h _ hm rfl⟩⟩
      · rw [wx.2]
        exact Nat.le_of_lt (small1000 (by have := hz.len; omega))
      · rw [len_app, wx.2]
        have := hz.len
        omega
    · have hm : z ∉ res := fun h => c (decide_eq_true h)
      exact ⟨_, rfl, q _ H4 (g1.trans g4) ⟨hz.wd, by have := hz.len; omega, hm⟩⟩
/-! ### _law_names -/
def spNames : Sp := fun vs H Q _ => ∃ (d : Addr) (m : Int), vs = [.ref d, .int m] ∧ Dr H d ∧ 0 ≤ m ∧ m ≤ 100 ∧
  ∀ (n : Addr) (xs : List Str) H', Go d H H' → H n = none → n ≠ d → H' n = some (.lst (xs.map V.str)) → (∀ x ∈ xs, Nam x) → xs.length ≤ m → xs.Nodup → (1 ≤ m → xs ≠ []) → Q (.ref n) H'
theorem ok_law_names (T : Txt K mg) : FnOk P w K mg base CX0 4 T.a_law_names T.d_law_names P_law_names spNames := by
  have G_law_name := ok_law_name (P := P) (w := w) (base := base) T
  refine T.F_law_names.ok sc_law_names (fun vs H Q E h => ?_) (fun cdv A outer s H vs Q E hr h => ?_)
  · obtain ⟨d, m, rfl, _⟩ := h
    rfl
  obtain ⟨d, m, rfl, hD, m0, m1, q⟩ := h
  refine ⟨_, (pss_cons (ps_set (i := 2) sc_law_names.nd rfl (Or.inl rfl) (pe_lst pa_nil))
    (pss_cons (ps_for PassesOwn.never rfl (pi_range1 (by rfl) T.z_range (pa_cons (pv 1) pa_nil)) (pg_name (i := 3) sc_law_names.nd rfl (Or.inl rfl))
    (pss_cons (ps_set (i := 4) sc_law_names.nd rfl (Or.inl rfl) (pe_call G_law_name (hr.mono (by omega)) (by rfl) T.m_law_name T.F_law_name.kp T.b_law_name .nil pass0 (pa_cons (pv 0) pa_nil)))
    (pss_one (ps_if (pt_cmpR op_notIn_seq (pv 4) (pv 2) (by rfl))
    (pss_one (ps_expr (pe_bm PySem.F.plainAttrs_list PySem.F.slot_list_append PySem.F.type_list_append mt_append (pv 2) (pa_cons (pv 4) pa_nil))))
    pss_nil))))
    (pss_one (ps_ret (pv 2))))), ?_⟩
  refine ⟨(by decide), fun n hn => ?_⟩
  have nd : n ≠ d := by
    rintro rfl
    obtain ⟨ns, hd⟩ := hD
    rw [hn] at hd; cases hd
  refine ⟨_, rfl, m, rfl, by omega, by omega, for_range (lo := 0) (n := m.toNat) (fun j σ H' => ∃ (xs : List Str) (y z : Option V), σ = [some (.ref d), some (.int m), some (.ref n), y, z] ∧ Go d H H' ∧ H' n = some (.lst (xs.map V.str)) ∧ (∀ x ∈ xs, Nam x) ∧ xs.length ≤ j ∧ xs.Nodup ∧ (0 < j → xs ≠ [])) ?_ ?_ ?_⟩
  · exact ⟨[], none, none, rfl, .new hD hn, upd_same, (fun x h => by cases h), Nat.le_refl _, List.nodup_nil, fun h => absurd h (by decide)⟩
  · rintro j σ H' hj ⟨xs, y, z, rfl, g, e, hx, hl, hnd, hne⟩
    refine ⟨_, rfl, d, rfl, g.dr, fun nm H2 g2 hnm => ?_⟩
    have e2 := g2.fr n _ nd e
    refine ⟨_, rfl, _, rfl, _, _, rfl, .inl (sqd e2), rfl, flat_strs' xs, _, rfl, ?_⟩
    rw [inV_str]
    refine ite2 (fun c => ?_) (fun c => ?_)
    · have hm : nm ∉ xs := fun h => by
        have c' : (!decide (nm ∈ xs)) = true := c
        rw [decide_eq_true h] at c'
        cases c'
      refine ⟨_, rfl, .inl ⟨rfl, _, sqd e2⟩, _, rfl, n, _, _, rfl, rfl, e2, ?_, ?_⟩
      · rw [List.length_map]
        exact small1000 (by omega)
      · refine ⟨xs ++ [nm], _, _, rfl, ?_, ?_, ?_, ?_, ?_, fun _ => by simp⟩
        · have g3 := g.trans g2
          refine ⟨fun b o hb eb => ?_, ?_⟩
          · rw [upd_ne (ne_of_none eb hn)]
            exact g3.fr b o hb eb
          · obtain ⟨ns, hd⟩ := g3.dr
            exact ⟨ns, by rw [upd_ne nd.symm]; exact hd⟩
        · rw [upd_same, List.map_append]
          rfl
        · intro x h
          rcases List.mem_append.mp h with h | h
          · exact hx x h
          · rw [List.mem_singleton.mp h]
            exact hnm
        · rw [List.length_append, List.length_singleton]
          omega
        · exact List.nodup_append.mpr ⟨hnd, List.nodup_cons.mpr ⟨List.not_mem_nil, List.nodup_nil⟩, fun a ha b hb => by
            rw [List.mem_singleton.mp hb]
            rintro rfl
            exact hm ha⟩
    · refine ⟨xs, _, _, rfl, g.trans g2, e2, hx, by omega, hnd, fun _ h => ?_⟩
      rw [h] at c
      exact c rfl
  · rintro σ H' ⟨xs, y, z, rfl, g, e, hx, hl, hnd, hne⟩
    exact ⟨_, rfl, q n xs H' g hn nd e hx (by omega) hnd fun h => hne (by omega)⟩
/-! ### _law_number -/
def spNumber (B : Nat) : Sp := fun vs H Q _ => ∃ (d : Addr) (c : Int), vs = [.ref d, .int c] ∧ Dr H d ∧ c.natAbs ≤ B ∧ ∀ n H', Go d H H' → n.natAbs ≤ B → Q (.int n) H'
theorem ok_law_number {B : Nat} (hB : 100 ≤ B) (T : Txt K mg) : FnOk P w K mg base CX0 2 T.a_law_number T.d_law_number P_law_number (spNumber B) := by
  have G_law_take := ok_law_take (P := P) (w := w) (base := base) T
  refine T.F_law_number.ok sc_law_number (fun vs H Q E h => ?_) (fun cdv A outer s H vs Q E hr h => ?_)
  · obtain ⟨d, c, rfl, _⟩ := h
    rfl
  obtain ⟨d, c, rfl, hD, hc, q⟩ := h
  refine ⟨_, (pss_one (ps_ret (pe_ix ix_list (pe_lst (pa_cons pe_int (pa_cons pe_int (pa_cons (pe_un un_neg pe_int) (pa_cons (pe_op op_sub (pe_call G_law_take (hr.mono (by omega)) (by rfl) T.m_law_take T.F_law_take.kp T.b_law_take .nil pass0 (pa_cons (pv 0) (pa_cons pe_int pa_nil))) pe_int) (pa_cons (pe_op op_sub (pe_call G_law_take (hr.mono (by omega)) (by rfl) T.m_law_take T.F_law_take.kp T.b_law_take .nil pass0 (pa_cons (pv 0) (pa_cons pe_int pa_nil))) pe_int) (pa_cons (pv 1) pa_nil))))))) (pe_call G_law_take (hr.mono (by omega)) (by rfl) T.m_law_take T.F_law_take.kp T.b_law_take .nil pass0 (pa_cons (pv 0) (pa_cons pe_int pa_nil))) (fun _ _ => rfl)))), ?_⟩
  refine ⟨_, rfl, _, rfl, d, _, rfl, hD, (by decide), fun r1 H1 g1 a0 a1 => ?_⟩
  refine ⟨_, _, rfl, rfl, _, rfl, d, _, rfl, g1.dr, (by decide), fun r2 H2 g2 b0 b1 => ?_⟩
  refine ⟨_, _, rfl, rfl, _, rfl, (Nat.le_of_ble_eq_true rfl), fun p hp => ?_⟩
  have g3 := fun o => Go.new (o := o) g2.dr hp
  refine ⟨_, rfl, d, _, rfl, (g3 _).dr, (by decide), fun u H4 g4 u0 u1 => ?_⟩
  have np : p ≠ d := by
    rintro rfl
    obtain ⟨ns, hd⟩ := g2.dr
    rw [hp] at hd; cases hd
  have e4 := g4.fr p _ np upd_same
  obtain ⟨v, hv, hm⟩ := atI_map (f := V.int) (xs := [0, 1, -1, r1 - 5, r2 - 100, c]) u0 u1
  refine ⟨_, _, _, _, rfl, rfl, sqd e4, hv, q v H4 (g1.trans (g2.trans ((g3 _).trans g4))) ?_⟩
  simp only [List.mem_cons, List.not_mem_nil, or_false] at hm
  omega
/-! ### _law_leaf -/
def spLeaf (K : PySem.W.Frag) (B : Nat) : Sp := fun vs H Q _ => ∃ (d n : Addr) (xs : List Str) (c : Int), vs = [.ref d, .ref n, .int c] ∧ Dr H d ∧ Keep K d H n (xs.map V.str) ∧ c.natAbs ≤ B ∧
  ∀ v i H', Go d H H' → ItemIn H' i v → Okx xs B false i → i.dep = 1 → i.sz = 1 → Q v H'
theorem ok_law_leaf {B : Nat} (hB : 100 ≤ B) (T : Txt K mg) : FnOk P w K mg base CX0 3 T.a_law_leaf T.d_law_leaf P_law_leaf (spLeaf K B) := by
  have G_law_take := ok_law_take (P := P) (w := w) (base := base) T
  have G_law_number := ok_law_number (P := P) (w := w) (base := base) hB T
  refine T.F_law_leaf.ok sc_law_leaf (fun vs H Q E h => ?_) (fun cdv A outer s H vs Q E hr h => ?_)
  · obtain ⟨d, n, xs, c, rfl, _⟩ := h
    rfl
  obtain ⟨d, n, xs, c, rfl, hD, hk, hc, q⟩ := h
  refine ⟨_, (pss_cons (ps_if (PW.pt (pw_or (pt_cmpR op_eq (pe_callB call_len_seq (by rfl) T.z_len PySem.boot_len (pa_cons (pv 1) pa_nil)) pe_int (nomark _)) (pw_or1 (pt_cmpR op_lt (pe_call G_law_take (hr.mono (by omega)) (by rfl) T.m_law_take T.F_law_take.kp T.b_law_take .nil pass0 (pa_cons (pv 0) (pa_cons pe_int pa_nil))) pe_int (nomark _)))))
    (pss_one (ps_ret (pe_tup (pa_cons pe_str (pa_cons (pe_call G_law_number (hr.mono (by omega)) (by rfl) T.m_law_number T.F_law_number.kp T.b_law_number .nil pass0 (pa_cons (pv 0) (pa_cons (pv 2) pa_nil))) pa_nil)))))
    pss_nil)
    (pss_one (ps_ret (pe_tup (pa_cons pe_str (pa_cons (pe_ix ix_list (pv 1) (pe_call G_law_take (hr.mono (by omega)) (by rfl) T.m_law_take T.F_law_take.kp T.b_law_take .nil pass0 (pa_cons (pv 0) (pa_cons (pe_callB call_len_seq (by rfl) T.z_len PySem.boot_len (pa_cons (pv 1) pa_nil)) pa_nil))) (fun _ _ => rfl)) pa_nil)))))), ?_⟩
  have one : ∀ H1, Go d H H1 → tRet (tTup (tCons (tC (.str "number")) (tCons (tCall (spNumber B) [] E0 (tCons (tVar 0) (tCons (tVar 2) tNil))) tNil))) { nx := fun _ H' => Q .non H', rt := Q } [some (.ref d), some (.ref n), some (.int c)] H1 := fun H1 g1 => by
    refine ⟨_, rfl, _, rfl, d, c, rfl, g1.dr, hc, fun m H2 g2 hm => ⟨(Nat.le_of_ble_eq_true rfl), fun p hp => ?_⟩⟩
    exact q _ _ _ (g1.trans (g2.trans (.new g2.dr hp))) (.num upd_same) (.num hm) (by rw [It.dep]) (by rw [It.sz])
  refine ⟨_, rfl, _, _, rfl, .inl hk.now, rfl, _, rfl, ?_⟩
  refine ite2 (fun c0 => ?_) (fun c0 => ?_)
  · exact one H (Go.refl hD)
  · have hl := int_ne c0
    rw [List.length_map] at hl
    refine ⟨_, rfl, d, _, rfl, hD, (by decide), fun r H1 g1 r0 r1 => ?_⟩
    refine ⟨_, _, rfl, rfl, _, rfl, ?_⟩
    refine ite2 (fun c1 => ?_) (fun c1 => ?_)
    · exact one H1 g1
    · refine ⟨_, rfl, _, rfl, _, rfl, _, _, rfl, .inl (hk.go g1).now, d, _, rfl, g1.dr, by rw [List.length_map]; omega, fun u H2 g2 u0 u1 => ?_⟩
      rw [List.length_map] at u1
      obtain ⟨v, hv, hm⟩ := atI_map (f := V.str) u0 u1
      refine ⟨_, _, _, _, rfl, rfl, ((hk.go g1).go g2).now, hv, (Nat.le_of_ble_eq_true rfl), fun p hp => ?_⟩
      exact q _ _ _ (g1.trans (g2.trans (.new g2.dr hp))) (.name upd_same) (.name hm) (by rw [It.dep]) (by rw [It.sz])
end
end NL

namespace NL
open PySem PySem.Spec PyProof.Rows L2
theorem yes_if {σ : L2.St} {H : Hp} {a n : Hp → Prop} (h : a H) : tYes σ H (fun b H3 => if b = true then a H3 else n H3) := by
  show (if true = true then a H else n H)
  rw [if_pos rfl]
  exact h
/-- one reading for two ways -/
theorem cutP {B C : Prop} (f : B → C) (b : B) : C := f b
/-! ### _law_expression, _law_test: both by one induction over the depth -/
def eT : Nat → Nat × Nat
  | 0 => (1, 3)
  | n + 1 => (1 + 2 * (eT n).1 + (eT n).2, 1 + 2 * (1 + 2 * (eT n).1 + (eT n).2) + 5 * (eT n).2)
theorem eT_pos (n : Nat) : 1 ≤ (eT n).1 := by
  cases n with
  | zero => decide
  | succ n => show 1 ≤ 1 + 2 * (eT n).1 + (eT n).2; omega
theorem eT_bin (n : Nat) : 1 + 2 * (eT n).1 ≤ (eT n).2 := by
  cases n with
  | zero => decide
  | succ n => show 1 + 2 * (1 + 2 * (eT n).1 + (eT n).2) ≤ 1 + 2 * (1 + 2 * (eT n).1 + (eT n).2) + 5 * (eT n).2; omega
theorem new_ne {d p : Addr} {H : Hp} (h : Dr H d) (hp : H p = none) : p ≠ d := by
  rintro rfl
  obtain ⟨ns, e⟩ := h
  rw [hp] at e; cases e
/-- a new list that was made while d is drawn, read behind more draws -/
theorem Go.at {d p : Addr} {H H' : Hp} {o : HO} (h : Dr H d) (hp : H p = none) (g : Go d (upd H p o) H') : H' p = some o := g.fr p o (new_ne h hp) upd_same
def spE (K : PySem.W.Frag) (B : Nat) : Nat → Sp
  | 0 => fun _ _ _ _ => False
  | n + 1 => fun vs H Q _ => ∃ (d nm : Addr) (xs : List Str) (c δ : Int), vs = [.ref d, .ref nm, .int c, .int δ] ∧ Dr H d ∧ Keep K d H nm (xs.map V.str) ∧ c.natAbs ≤ B ∧ δ ≤ n ∧
    ∀ v i H', Go d H H' → ItemIn H' i v → Okx xs B false i → i.dep ≤ 2 * n + 1 → i.sz ≤ (eT n).1 → Q v H'
def spT (K : PySem.W.Frag) (B : Nat) : Nat → Sp
  | 0 => fun _ _ _ _ => False
  | n + 1 => fun vs H Q _ => ∃ (d nm : Addr) (xs : List Str) (c δ : Int), vs = [.ref d, .ref nm, .int c, .int δ] ∧ Dr H d ∧ Keep K d H nm (xs.map V.str) ∧ c.natAbs ≤ B ∧ δ ≤ n ∧
    ∀ v i H', Go d H H' → ItemIn H' i v → Okx xs B true i → i.dep ≤ 2 * n + 2 → i.sz ≤ (eT n).2 → Q v H'
theorem szL_le {m : Nat} : ∀ (l : List It), (∀ i ∈ l, i.sz ≤ m) → szL l ≤ l.length * m
  | [], _ => by rw [szL]; omega
  | a :: r, h => by
    rw [szL, List.length_cons, Nat.succ_mul]
    have h1 := h a List.mem_cons_self
    have h2 := szL_le r fun i hi => h i (List.mem_cons_of_mem _ hi)
    omega
theorem depL_le {m : Nat} : ∀ (l : List It), (∀ i ∈ l, i.dep ≤ m) → depL l ≤ m
  | [], _ => by rw [depL]; omega
  | a :: r, h => by
    rw [depL]
    have h1 := h a List.mem_cons_self
    have h2 := depL_le r fun i hi => h i (List.mem_cons_of_mem _ hi)
    omega
section
variable {P : Program} {w : World} {K : PySem.W.Frag} {mg : Str → Option Value} {base : Heap}
theorem ok_E {B n : Nat} (hB : 100 ≤ B) (T : Txt K mg) (G_law_expression : FnOk P w K mg base CX0 (3 + 2 * n) T.a_law_expression T.d_law_expression P_law_expression (spE K B n))
    (G_law_test : FnOk P w K mg base CX0 (4 + 2 * n) T.a_law_test T.d_law_test P_law_test (spT K B n)) :
    FnOk P w K mg base CX0 (4 + 2 * n + 1) T.a_law_expression T.d_law_expression P_law_expression (spE K B (n + 1)) := by
  have G_law_take := ok_law_take (P := P) (w := w) (base := base) T
  have G_law_leaf := ok_law_leaf (P := P) (w := w) (base := base) hB T
  refine T.F_law_expression.ok sc_law_expression (fun vs H Q E h => ?_) (fun cdv A outer s H vs Q E hr h => ?_)
  · obtain ⟨d, nm, xs, c, δ, rfl, _⟩ := h
    rfl
  obtain ⟨d, nm, xs, c, δ, rfl, hD, hk, hc, hδ, q⟩ := h
  refine ⟨_, (pss_cons (ps_set (i := 4) sc_law_expression.nd rfl (Or.inl rfl) (pe_call G_law_take (hr.mono (by omega)) (by rfl) T.m_law_take T.F_law_take.kp T.b_law_take .nil pass0 (pa_cons (pv 0) (pa_cons pe_int pa_nil))))
    (pss_cons (ps_if (PW.pt (pw_or (pt_cmpR op_lt (pv 3) pe_int (nomark _)) (pw_or1 (pt_cmpR op_lt (pv 4) pe_int (nomark _)))))
    (pss_one (ps_ret (pe_call G_law_leaf (hr.mono (by omega)) (by rfl) T.m_law_leaf T.F_law_leaf.kp T.b_law_leaf .nil pass0 (pa_cons (pv 0) (pa_cons (pv 1) (pa_cons (pv 2) pa_nil))))))
    pss_nil)
    (pss_cons (ps_set (i := 5) sc_law_expression.nd rfl (Or.inl rfl) (pe_call G_law_expression (hr.mono (by omega)) (by rfl) T.m_law_expression T.F_law_expression.kp T.b_law_expression .nil pass0 (pa_cons (pv 0) (pa_cons (pv 1) (pa_cons (pv 2) (pa_cons (pe_op op_sub (pv 3) pe_int) pa_nil))))))
    (pss_cons (ps_if (pt_cmpR op_eq (pv 4) pe_int (nomark _))
    (pss_one (ps_ret (pe_tup (pa_cons pe_str (pa_cons (pv 5) pa_nil)))))
    pss_nil)
    (pss_cons (ps_if (pt_cmpR op_lt (pv 4) pe_int (nomark _))
    (pss_one (ps_ret (pe_tup (pa_cons (pe_ix ix_list (pe_lst (pa_cons pe_str (pa_cons pe_str pa_nil))) (pe_op op_sub (pv 4) pe_int) (fun _ _ => rfl)) (pa_cons (pv 5) (pa_cons (pe_op op_add pe_int (pe_ix ix_list (pe_lst (pa_cons pe_int (pa_cons (pe_call G_law_take (hr.mono (by omega)) (by rfl) T.m_law_take T.F_law_take.kp T.b_law_take .nil pass0 (pa_cons (pv 0) (pa_cons pe_int pa_nil))) (pa_cons (pe_callB (call_abs) (by rfl) T.z_abs (by decide +kernel) (pa_cons (pv 2) pa_nil)) pa_nil)))) (pe_call G_law_take (hr.mono (by omega)) (by rfl) T.m_law_take T.F_law_take.kp T.b_law_take .nil pass0 (pa_cons (pv 0) (pa_cons pe_int pa_nil))) (fun _ _ => rfl))) pa_nil))))))
    pss_nil)
    (pss_cons (ps_set (i := 6) sc_law_expression.nd rfl (Or.inl rfl) (pe_call G_law_expression (hr.mono (by omega)) (by rfl) T.m_law_expression T.F_law_expression.kp T.b_law_expression .nil pass0 (pa_cons (pv 0) (pa_cons (pv 1) (pa_cons (pv 2) (pa_cons (pe_op op_sub (pv 3) pe_int) pa_nil))))))
    (pss_cons (ps_if (pt_cmpR op_eq (pv 4) pe_int (nomark _))
    (pss_one (ps_ret (pe_tup (pa_cons pe_str (pa_cons (pe_call G_law_test (hr.mono (by omega)) (by rfl) T.m_law_test T.F_law_test.kp T.b_law_test .nil pass0 (pa_cons (pv 0) (pa_cons (pv 1) (pa_cons (pv 2) (pa_cons (pe_op op_sub (pv 3) pe_int) pa_nil))))) (pa_cons (pv 5) (pa_cons (pv 6) pa_nil)))))))
    pss_nil)
    (pss_one (ps_ret (pe_tup (pa_cons (pe_ix ix_list (pe_lst (pa_cons pe_str (pa_cons pe_str (pa_cons pe_str (pa_cons pe_str (pa_cons pe_str pa_nil)))))) (pe_op op_sub (pv 4) pe_int) (fun _ _ => rfl)) (pa_cons (pv 5) (pa_cons (pv 6) pa_nil))))))))))))), ?_⟩
  refine ⟨_, rfl, d, _, rfl, hD, (by decide), fun kd H1 g1 k0 k1 => ?_⟩
  have leaf : tRet (tCall (spLeaf K B) [] E0 (tCons (tVar 0) (tCons (tVar 1) (tCons (tVar 2) tNil)))) { nx := fun _ H' => Q .non H', rt := Q } [some (.ref d), some (.ref nm), some (.int c), some (.int δ), some (.int kd), none, none] H1 := by
    refine ⟨_, rfl, _, rfl, _, rfl, d, nm, xs, c, rfl, g1.dr, hk.go g1, hc, fun v i H2 g2 hi ho hd hs => ?_⟩
    exact q v i H2 (g1.trans g2) hi ho (by omega) (by have := eT_pos n; omega)
  refine ⟨_, rfl, _, _, rfl, rfl, _, rfl, ?_⟩
  refine ite2 (fun c1 => iteT leaf) (fun c1 => ?_)
  refine ⟨_, rfl, _, _, rfl, rfl, _, rfl, ?_⟩
  refine ite2 (fun c2 => leaf) (fun c2 => ?_)
  have d1 : ¬ δ < 1 := fun h => c1 (decide_eq_true h)
  have k3 : ¬ kd < 3 := fun h => c2 (decide_eq_true h)
  cases n with
  | zero => exact absurd hδ (by omega)
  | succ n =>
  have eE : (eT (n + 1)).1 = 1 + 2 * (eT n).1 + (eT n).2 := rfl
  -- one
  refine ⟨_, rfl, _, rfl, _, rfl, _, rfl, _, _, rfl, rfl, d, nm, xs, c, δ - 1, rfl, g1.dr, hk.go g1, hc, by omega, fun v1 i1 H2 g2 hi1 ho1 hd1 hs1 => ?_⟩
  refine ⟨_, rfl, rfl, _, rfl, ?_⟩
  refine ite2 (fun c3 => ?_) (fun c3 => ?_)
  · refine ⟨_, rfl, (Nat.le_of_ble_eq_true rfl), fun p hp => ?_⟩
    have gn := fun o => Go.new (o := o) g2.dr hp
    exact q _ _ _ (g1.trans (g2.trans (gn _))) (.un upd_same (hi1.go (gn _) g2.dr)) (.abs ho1) (by rw [It.dep]; omega) (by rw [It.sz]; omega)
  have k4 : kd ≠ 3 := int_ne c3
  refine ⟨_, rfl, _, _, rfl, rfl, _, rfl, ?_⟩
  refine ite2 (fun c4 => ?_) (fun c4 => ?_)
  · have k5 : kd < 6 := of_decide_eq_true c4
    refine ⟨(Nat.le_of_ble_eq_true rfl), fun p hp => ?_⟩
    have gp := fun o => Go.new (o := o) g2.dr hp
    obtain ⟨wd, hw, hm⟩ := atI_map (f := V.str) (xs := ["div", "mod"]) (i := kd - 4) (by omega) (by show kd - 4 < 2; omega)
    refine ⟨_, rfl, _, _, rfl, rfl, _, _, _, _, rfl, rfl, sqd upd_same, hw, ?_⟩
    refine ⟨_, rfl, _, rfl, d, _, rfl, (gp _).dr, (by decide), fun r H3 g3 r0 r1 => ?_⟩
    refine ⟨_, rfl, _, rfl, (Nat.le_of_ble_eq_true rfl), fun p2 hp2 => ?_⟩
    have gp2 := fun o => Go.new (o := o) g3.dr hp2
    refine ⟨_, rfl, d, _, rfl, (gp2 _).dr, (by decide), fun u H4 g4 u0 u1 => ?_⟩
    obtain ⟨n1, hn1, hm1⟩ := atI_map (f := V.int) (xs := [0, r, if c < 0 then -c else c]) u0 u1
    refine ⟨_, _, _, _, rfl, rfl, sqd (g4.at g3.dr hp2), hn1, _, _, rfl, rfl, (Nat.le_of_ble_eq_true rfl), fun p3 hp3 => ?_⟩
    have gp3 := fun o => Go.new (o := o) g4.dr hp3
    have gg := fun o => (gp _).trans (g3.trans ((gp2 _).trans (g4.trans (gp3 o))))
    have hb : 0 ≤ n1 ∧ n1.natAbs ≤ B := by
      simp only [List.mem_cons, List.not_mem_nil, or_false] at hm1
      rcases hm1 with h | h | h
      · omega
      · omega
      · split at h <;> omega
    exact q _ _ _ (g1.trans (g2.trans (gg _))) (.dm upd_same (hi1.go (gg _) g2.dr)) (.dm hm ho1 (by omega) (by omega)) (by rw [It.dep]; omega) (by rw [It.sz]; omega)
  have k6 : ¬ kd < 6 := fun h => c4 (decide_eq_true h)
  -- two
  refine ⟨_, rfl, _, rfl, _, rfl, _, rfl, _, _, rfl, rfl, d, nm, xs, c, δ - 1, rfl, g2.dr, (hk.go g1).go g2, hc, by omega, fun v2 i2 H3 g3 hi2 ho2 hd2 hs2 => ?_⟩
  refine ⟨_, rfl, rfl, _, rfl, ?_⟩
  refine ite2 (fun c5 => ?_) (fun c5 => ?_)
  · refine ⟨_, rfl, _, rfl, _, rfl, _, rfl, _, _, rfl, rfl, d, nm, xs, c, δ - 1, rfl, g3.dr, ((hk.go g1).go g2).go g3, hc, by omega, fun v3 i3 H4 g4 hi3 ho3 hd3 hs3 => ?_⟩
    refine ⟨_, rfl, _, rfl, (Nat.le_of_ble_eq_true rfl), fun p hp => ?_⟩
    have gp := fun o => Go.new (o := o) g4.dr hp
    exact q _ _ _ (g1.trans (g2.trans (g3.trans (g4.trans (gp _))))) (.tri upd_same (hi3.go (gp _) g4.dr) (hi1.go (g3.trans (g4.trans (gp _))) g2.dr) (hi2.go (g4.trans (gp _)) g3.dr)) (.tri ho3 ho1 ho2) (by rw [It.dep]; omega) (by rw [It.sz]; omega)
  have k7 : kd ≠ 6 := int_ne c5
  refine ⟨(Nat.le_of_ble_eq_true rfl), fun p hp => ?_⟩
  have gp := fun o => Go.new (o := o) g3.dr hp
  obtain ⟨wd, hw, hm⟩ := atI_map (f := V.str) (xs := ["add", "sub", "mul", "min", "max"]) (i := kd - 7) (by omega) (by show kd - 7 < 5; omega)
  refine ⟨_, rfl, _, _, rfl, rfl, _, _, _, _, rfl, rfl, sqd upd_same, hw, _, rfl, _, rfl, (Nat.le_of_ble_eq_true rfl), fun p2 hp2 => ?_⟩
  have gp2 := fun o => Go.new (o := o) (gp _).dr hp2
  have gg := fun o => (gp _).trans (gp2 o)
  exact q _ _ _ (g1.trans (g2.trans (g3.trans (gg _)))) (.bin upd_same (hi1.go (g3.trans (gg _)) g2.dr) (hi2.go (gg _) g3.dr)) (.bin hm ho1 ho2) (by rw [It.dep]; omega) (by rw [It.sz]; omega)
theorem ok_T {B n : Nat} (hB : 100 ≤ B) (T : Txt K mg) (G_law_expression : FnOk P w K mg base CX0 (4 + 2 * n + 1) T.a_law_expression T.d_law_expression P_law_expression (spE K B (n + 1)))
    (G_law_test : FnOk P w K mg base CX0 (4 + 2 * n) T.a_law_test T.d_law_test P_law_test (spT K B n)) :
    FnOk P w K mg base CX0 (5 + 2 * n + 1) T.a_law_test T.d_law_test P_law_test (spT K B (n + 1)) := by
  have G_law_take := ok_law_take (P := P) (w := w) (base := base) T
  refine T.F_law_test.ok sc_law_test (fun vs H Q E h => ?_) (fun cdv A outer s H vs Q E hr h => ?_)
  · obtain ⟨d, nm, xs, c, δ, rfl, _⟩ := h
    rfl
  obtain ⟨d, nm, xs, c, δ, rfl, hD, hk, hc, hδ, q⟩ := h
  have eB := eT_bin n
  refine ⟨_, (pss_cons (ps_set (i := 4) sc_law_test.nd rfl (Or.inl rfl) (pe_call G_law_take (hr.mono (by omega)) (by rfl) T.m_law_take T.F_law_take.kp T.b_law_take .nil pass0 (pa_cons (pv 0) (pa_cons pe_int pa_nil))))
    (pss_cons (ps_if (pt_cmpR op_lt (pv 4) pe_int (nomark _))
    (pss_one (ps_ret (pe_ix ix_list (pe_lst (pa_cons (pe_tup (pa_cons pe_str pa_nil)) (pa_cons (pe_tup (pa_cons pe_str pa_nil)) pa_nil))) (pv 4) (fun _ _ => rfl))))
    pss_nil)
    (pss_cons (ps_if (PW.pt (pw_or (pt_cmpR op_lt (pv 3) pe_int (nomark _)) (pw_or1 (pt_cmpR op_lt (pv 4) pe_int (nomark _)))))
    (pss_cons (ps_set (i := 5) sc_law_test.nd rfl (Or.inl rfl) (pe_call G_law_expression (hr.mono (by omega)) (by rfl) T.m_law_expression T.F_law_expression.kp T.b_law_expression .nil pass0 (pa_cons (pv 0) (pa_cons (pv 1) (pa_cons (pv 2) (pa_cons (pe_op op_sub (pv 3) pe_int) pa_nil))))))
    (pss_one (ps_ret (pe_tup (pa_cons (pe_ix ix_list (pe_lst (pa_cons pe_str (pa_cons pe_str pa_nil))) (pe_op op_mod (pv 4) pe_int) (fun _ _ => rfl)) (pa_cons (pv 5) (pa_cons (pe_call G_law_expression (hr.mono (by omega)) (by rfl) T.m_law_expression T.F_law_expression.kp T.b_law_expression .nil pass0 (pa_cons (pv 0) (pa_cons (pv 1) (pa_cons (pv 2) (pa_cons (pe_op op_sub (pv 3) pe_int) pa_nil))))) pa_nil)))))))
    pss_nil)
    (pss_cons (ps_if (pt_cmpR op_eq (pv 4) pe_int (nomark _))
    (pss_one (ps_ret (pe_tup (pa_cons pe_str (pa_cons (pe_call G_law_test (hr.mono (by omega)) (by rfl) T.m_law_test T.F_law_test.kp T.b_law_test .nil pass0 (pa_cons (pv 0) (pa_cons (pv 1) (pa_cons (pv 2) (pa_cons (pe_op op_sub (pv 3) pe_int) pa_nil))))) pa_nil)))))
    pss_nil)
    (pss_cons (ps_set (i := 6) sc_law_test.nd rfl (Or.inl rfl) (pe_ix ix_list (pe_lst (pa_cons pe_int (pa_cons pe_int (pa_cons pe_int (pa_cons pe_int (pa_cons pe_int (pa_cons pe_int pa_nil))))))) (pe_call G_law_take (hr.mono (by omega)) (by rfl) T.m_law_take T.F_law_take.kp T.b_law_take .nil pass0 (pa_cons (pv 0) (pa_cons pe_int pa_nil))) (fun _ _ => rfl)))
    (pss_one (ps_ret (pe_tup (pa_cons (pe_ix ix_list (pe_lst (pa_cons pe_str (pa_cons pe_str (pa_cons pe_str pa_nil)))) (pe_op op_sub (pv 4) pe_int) (fun _ _ => rfl)) (pa_cons (pe_callTy call_tuple_of (by rfl) T.z_tuple (by decide +kernel) (pa_cons (pe_lc (own := [("k", 7)]) (g := (gName 7)) (tt := tYes) rfl sc_law_test.nd (pi_range1 (by rfl) T.z_range (pa_cons (pv 6) pa_nil)) (blkOk_by (N := N_law_test) (sc := defScope s_law_test) (by decide +kernel)) (fun _ _ _ _ _ => (pg_name (i := 7) sc_law_test.nd rfl (Or.inl rfl))) (fun _ _ _ _ _ => pts_nil) (fun _ _ _ _ _ => (pe_call G_law_test (hr.mono (by omega)) (by rfl) T.m_law_test T.F_law_test.kp T.b_law_test .nil pass0 (pa_cons (pv 0) (pa_cons (pv 1) (pa_cons (pv 2) (pa_cons (pe_op op_sub (pv 3) pe_int) pa_nil))))))) pa_nil)) pa_nil)))))))))), ?_⟩
  refine ⟨_, rfl, d, _, rfl, hD, (by decide), fun kd H1 g1 k0 k1 => ?_⟩
  refine ⟨_, rfl, _, _, rfl, rfl, _, rfl, ?_⟩
  refine ite2 (fun c1 => ?_) (fun c1 => ?_)
  · have k2 : kd < 2 := of_decide_eq_true c1
    refine ⟨(Nat.le_of_ble_eq_true rfl), fun p hp => ⟨(Nat.le_of_ble_eq_true rfl), fun p2 hp2 => ⟨(Nat.le_of_ble_eq_true rfl), fun p3 hp3 => ?_⟩⟩⟩
    have n12 : p ≠ p2 := ne_of_none upd_same hp2
    have n13 : p ≠ p3 := ne_of_none (by rw [upd_ne n12]; exact upd_same) hp3
    have n23 : p2 ≠ p3 := ne_of_none upd_same hp3
    obtain ⟨v, hv, hm⟩ := atI_mem (xs := [V.ref p, V.ref p2]) (i := kd) k0 (by show kd < 2; exact k2)
    have g2 := fun o => Go.new (o := o) g1.dr hp
    have g3 := fun o => Go.new (o := o) (g2 _).dr hp2
    have g4 := fun o => Go.new (o := o) (g3 _).dr hp3
    refine ⟨_, rfl, _, _, _, _, rfl, rfl, sqd upd_same, hv, ?_⟩
    simp only [List.mem_cons, List.not_mem_nil, or_false] at hm
    have gg := fun o => g1.trans ((g2 _).trans ((g3 _).trans (g4 o)))
    rcases hm with rfl | rfl
    · exact q _ (.lit true) _ (gg _) (.lit (by rw [upd_ne n13, upd_ne n12]; exact upd_same)) .lit (by rw [It.dep]; omega) (by rw [It.sz]; omega)
    · exact q _ (.lit false) _ (gg _) (.lit (by rw [upd_ne n23]; exact upd_same)) .lit (by rw [It.dep]; omega) (by rw [It.sz]; omega)
  have k2 : ¬ kd < 2 := fun h => c1 (decide_eq_true h)
  -- less, equal
  refine ⟨_, rfl, _, _, rfl, rfl, _, rfl, ?_⟩
  refine' cutP ?f ?b
  case f =>
    intro body
    refine ite2 (fun c2 => iteT body) (fun c2 => ?_)
    refine ⟨_, rfl, _, _, rfl, rfl, _, rfl, ?_⟩
    refine ite2 (fun c3 => body) (fun c3 => ?_)
    have d1 : ¬ δ < 1 := fun h => c2 (decide_eq_true h)
    have k6 : ¬ kd < 6 := fun h => c3 (decide_eq_true h)
    cases n with
    | zero => exact absurd hδ (by omega)
    | succ n =>
    have eE : (eT (n + 1)).2 = 1 + 2 * (1 + 2 * (eT n).1 + (eT n).2) + 5 * (eT n).2 := rfl
    -- not
    refine ⟨_, rfl, rfl, _, rfl, ?_⟩
    refine ite2 (fun c4 => ?_) (fun c4 => ?_)
    · refine ⟨_, rfl, _, rfl, _, rfl, _, rfl, _, _, rfl, rfl, d, nm, xs, c, δ - 1, rfl, g1.dr, hk.go g1, hc, by omega, fun v1 i1 H2 g2 hi1 ho1 hd1 hs1 => ?_⟩
      refine ⟨(Nat.le_of_ble_eq_true rfl), fun p hp => ?_⟩
      have gp := fun o => Go.new (o := o) g2.dr hp
      exact q _ _ _ (g1.trans (g2.trans (gp _))) (.un upd_same (hi1.go (gp _) g2.dr)) (.not ho1) (by rw [It.dep]; omega) (by rw [It.sz]; omega)
    have k7 : kd ≠ 6 := int_ne c4
    -- many
    refine ⟨(Nat.le_of_ble_eq_true rfl), fun p hp => ?_⟩
    have gp := fun o => Go.new (o := o) g1.dr hp
    refine ⟨_, rfl, d, _, rfl, (gp _).dr, (by decide), fun u H2 g2 u0 u1 => ?_⟩
    obtain ⟨m, hmv, hmm⟩ := atI_map (f := V.int) (xs := [0, 1, 2, 3, 2, 5]) u0 u1
    have hm5 : 0 ≤ m ∧ m ≤ 5 := by
      simp only [List.mem_cons, List.not_mem_nil, or_false] at hmm
      omega
    have g12 := g1.trans ((gp _).trans g2)
    refine ⟨_, _, _, _, rfl, rfl, sqd (g2.at g1.dr hp), hmv, (Nat.le_of_ble_eq_true rfl), fun p2 hp2 => ?_⟩
    have gp2 := fun o => Go.new (o := o) g2.dr hp2
    obtain ⟨wd, hw, hmw⟩ := atI_map (f := V.str) (xs := ["all", "any", "all"]) (i := kd - 7) (by omega) (by show kd - 7 < 3; omega)
    refine ⟨_, rfl, _, _, rfl, rfl, _, _, _, _, rfl, rfl, sqd upd_same, hw, _, rfl, m, rfl, by omega, by omega, fun D hD => ?_⟩
    have gD := fun o => Go.new (o := o) (gp2 _).dr hD
    refine lc_range (lo := 0) (n := m.toNat) (fun (j : Nat) (H' : Hp) => ∃ (l : List It) (vs : List V), vs.length = j ∧ l.length = j ∧ Go d (upd H2 p2 (.lst [.str "all", .str "any", .str "all"])) H' ∧ H' D = some (.lst vs) ∧ (∀ (k : Nat) i x, l[k]? = some i → vs[k]? = some x → ItemIn H' i x) ∧ (∀ i ∈ l, Okx xs B true i ∧ i.dep ≤ 2 * n + 2 ∧ i.sz ≤ (eT n).2)) ?_ ?_ ?_
    · exact ⟨[], [], rfl, rfl, gD _, upd_same, fun k i x h => by simp at h, fun i h => by cases h⟩
    · rintro j H' hj ⟨l, vs, hl1, hl2, g, e, hin, hok⟩
      refine ⟨rfl, ?_⟩
      refine yes_if ?_
      refine ⟨_, rfl, _, rfl, _, rfl, _, rfl, _, _, rfl, rfl, d, nm, xs, c, δ - 2, rfl, g.dr, (hk.go g12).go ((gp2 _).trans g), hc, by omega, fun v1 i1 H4 g4 hi1 ho1 hd1 hs1 => ?_⟩
      have nD : D ≠ d := new_ne (gp2 _).dr hD
      have e4 := g4.fr D _ nD e
      have t4 : Tp H4 (upd H4 D (.lst (vs ++ [v1]))) := fun a ys ea => by
        rw [upd_ne]
        · exact ea
        · rintro rfl
          rw [e4] at ea; cases ea
      refine ⟨vs, e4, small1000 (by omega), l ++ [i1], vs ++ [v1], ?_, ?_, ?_, upd_same, ?_, ?_⟩
      · rw [List.length_append, hl1] <;> rfl
      · rw [List.length_append, hl2] <;> rfl
      · have g5 := g.trans g4
        refine ⟨fun b o hb eb => ?_, ?_⟩
        · rw [upd_ne (ne_of_none eb hD)]
          exact g5.fr b o hb eb
        · obtain ⟨ns, h⟩ := g5.dr
          exact ⟨ns, by rw [upd_ne nD.symm]; exact h⟩
      · intro k i x h1 h2
        by_cases hk2 : k < j
        · rw [List.getElem?_append_left (by omega)] at h1 h2
          exact ((hin k i x h1 h2).go g4 g.dr).mono t4
        · have hk3 : k = j := by
            have := (List.getElem?_eq_some_iff.mp h1).1
            rw [List.length_append, hl2] at this
            have : [i1].length = 1 := rfl
            omega
          subst hk3
          rw [List.getElem?_append_right (by omega), hl2, Nat.sub_self] at h1
          rw [List.getElem?_append_right (by omega), hl1, Nat.sub_self] at h2
          obtain rfl : i1 = i := Option.some.inj h1
          obtain rfl : v1 = x := Option.some.inj h2
          exact hi1.mono t4
      · intro i hi
        rcases List.mem_append.mp hi with h | h
        · exact hok i h
        · rw [List.mem_singleton.mp h]
          exact ⟨ho1, hd1, hs1⟩
    · rintro H' ⟨l, vs, hl1, hl2, g, e, hin, hok⟩
      refine ⟨D, vs, rfl, .inl ⟨sqd e, fun tp htp => ?_⟩⟩
      have gt := fun o => Go.new (o := o) g.dr htp
      refine ⟨(Nat.le_of_ble_eq_true rfl), fun rp hrp => ?_⟩
      have gr := fun o => Go.new (o := o) (gt _).dr hrp
      have nt : tp ≠ rp := ne_of_none upd_same hrp
      have hz : szL l ≤ 5 * (eT n).2 := by
        have := szL_le l (fun i hi => (hok i hi).2.2)
        have h5 : l.length ≤ 5 := by omega
        exact Nat.le_trans this (Nat.mul_le_mul_right _ h5)
      have hd : depL l ≤ 2 * n + 2 := depL_le l (fun i hi => (hok i hi).2.1)
      refine q _ (.grp wd l) _ (g12.trans ((gp2 _).trans (g.trans ((gt _).trans (gr _))))) (.grp upd_same (by rw [upd_ne nt]; exact upd_same) (by omega) ?_) (.grp ?_ (by omega) fun i hi => (hok i hi).1) (by rw [It.dep]; omega) (by rw [It.sz]; omega)
      · intro k i x h1 h2
        exact (hin k i x h1 h2).go ((gt _).trans (gr _)) g.dr
      · simp only [List.mem_cons, List.not_mem_nil, or_false] at hmw ⊢
        rcases hmw with h | h | h
        · exact .inl h
        · exact .inr h
        · exact .inl h
  case b =>
    refine ⟨_, rfl, _, rfl, _, rfl, _, rfl, _, _, rfl, rfl, d, nm, xs, c, δ - 1, rfl, g1.dr, hk.go g1, hc, by omega, fun v1 i1 H2 g2 hi1 ho1 hd1 hs1 => ?_⟩
    refine ⟨(Nat.le_of_ble_eq_true rfl), fun p hp => ?_⟩
    have gp := fun o => Go.new (o := o) g2.dr hp
    have b1 := Int.emod_nonneg kd (by decide : (2 : Int) ≠ 0)
    have b2 := Int.emod_lt_of_pos kd (by decide : (0 : Int) < 2)
    obtain ⟨wd, hw, hm⟩ := atI_map (f := V.str) (xs := ["less", "equal"]) (i := kd % 2) b1 (by show kd % 2 < 2; exact b2)
    refine ⟨_, rfl, _, _, rfl, rfl, (by show (0 : Int) < 2; decide), _, _, _, _, rfl, rfl, sqd upd_same, hw, _, rfl, _, rfl, _, rfl, _, rfl, _, rfl, _, _, rfl, rfl, d, nm, xs, c, δ - 1, rfl, (gp _).dr, ((hk.go g1).go g2).go (gp _), hc, by omega, fun v2 i2 H3 g3 hi2 ho2 hd2 hs2 => ?_⟩
    refine ⟨(Nat.le_of_ble_eq_true rfl), fun p2 hp2 => ?_⟩
    have gp2 := fun o => Go.new (o := o) g3.dr hp2
    exact q _ _ _ (g1.trans (g2.trans ((gp _).trans (g3.trans (gp2 _))))) (.bin upd_same (hi1.go ((gp _).trans (g3.trans (gp2 _))) g2.dr) (hi2.go (gp2 _) g3.dr)) (.cmp hm ho1 ho2) (by rw [It.dep]; omega) (by rw [It.sz]; omega)
theorem ok_ET {B : Nat} (hB : 100 ≤ B) (T : Txt K mg) : ∀ n : Nat,
    FnOk P w K mg base CX0 (3 + 2 * n) T.a_law_expression T.d_law_expression P_law_expression (spE K B n) ∧ FnOk P w K mg base CX0 (4 + 2 * n) T.a_law_test T.d_law_test P_law_test (spT K B n)
  | 0 => ⟨⟨fun _ _ _ _ h => h.elim, fun _ _ _ _ _ _ _ _ _ _ _ _ _ h => h.elim⟩, ⟨fun _ _ _ _ h => h.elim, fun _ _ _ _ _ _ _ _ _ _ _ _ _ h => h.elim⟩⟩
  | n + 1 => by
    obtain ⟨ge, gt⟩ := ok_ET hB T n
    have h1 := ok_E hB T ge gt
    have h2 := ok_T hB T h1 gt
    exact ⟨h1.mono (by omega), h2.mono (by omega)⟩
end
end NL

namespace NL
open PySem PySem.Spec PyProof.Rows L2
theorem ixN_in {n : Nat} {k : Int} (h0 : 0 ≤ k) (h1 : k < n) : ixN n k = some k.toNat := by
  unfold ixN
  rw [if_pos h0, if_pos h1]
/-- a change at what was not there before -/
theorem same_put {H H' : Hp} {p : Addr} {o : HO} (s : Same H H') (hp : H p = none) : Same H (upd H' p o) := fun b u e => by
  rw [upd_ne (ne_of_none e hp)]
  exact s b u e
section
variable {P : Program} {w : World} {K : PySem.W.Frag} {mg : Str → Option Value} {base : Heap}
def spDraws (K : PySem.W.Frag) : Sp := fun vs H Q _ => ∃ (a : Addr) (ns : List Int) (m : Int), vs = [.ref a, .int m] ∧ SqL K H a (ns.map V.int) ∧ ns.length ≤ 63 ∧ 0 ≤ m ∧ m ≤ 1000 ∧
  ∀ d H', Same H H' → H d = none → Dr H' d → Q (.ref d) H'
theorem ok_law_draws (T : Txt K mg) : FnOk P w K mg base CX0 1 T.a_law_draws T.d_law_draws P_law_draws (spDraws K) := by
  refine T.F_law_draws.ok sc_law_draws (fun vs H Q E h => ?_) (fun cdv A outer s H vs Q E hr h => ?_)
  · obtain ⟨a, ns, m, rfl, _⟩ := h
    rfl
  obtain ⟨a, ns, m, rfl, hS, hl, m0, m1, q⟩ := h
  refine ⟨_, (pss_cons (ps_setLc (i := 2) (own := [("cell", 3)]) (g := (gName 3)) (tt := tYes) rfl sc_law_draws.nd rfl rfl (sw_true rfl rfl rfl (by decide +kernel)) (pi_list (pv 0)) (blkOk_by (N := N_law_draws) (sc := defScope s_law_draws) (by decide +kernel)) (fun _ _ _ _ _ => (pg_name (i := 3) sc_law_draws.nd rfl (Or.inl rfl))) (fun _ _ _ _ _ => pts_nil) (fun _ _ _ _ _ => (pe_callTy call_int1 (by rfl) T.z_int (by decide +kernel) (pa_cons (pv 3) pa_nil))))
    (C8.pss_cut (ps_if (pt_cmpR op_eq (pe_callB call_len_seq (by rfl) T.z_len PySem.boot_len (pa_cons (pv 2) pa_nil)) pe_int (nomark _))
    (pss_one (ps_expr (pe_bm PySem.F.plainAttrs_list PySem.F.slot_list_append PySem.F.type_list_append mt_append (pv 2) (pa_cons pe_int pa_nil))))
    pss_nil)
    (pss_cons (ps_set (i := 4) sc_law_draws.nd rfl (Or.inl rfl) (pe_callTy call_list_of (by rfl) T.z_list (by decide +kernel) (pa_cons (pv 2) pa_nil)))
    (pss_cons (ps_set (i := 5) sc_law_draws.nd rfl (Or.inl rfl) (pe_lst pa_nil))
    (pss_cons (ps_for PassesOwn.never rfl (pi_range1 (by rfl) T.z_range (pa_cons (pv 1) pa_nil)) (pg_name (i := 6) sc_law_draws.nd rfl (Or.inl rfl))
    (pss_cons (ps_set (i := 7) sc_law_draws.nd rfl (Or.inl rfl) (pe_op op_mod (pv 6) (pe_callB call_len_seq (by rfl) T.z_len PySem.boot_len (pa_cons (pv 2) pa_nil))))
    (pss_one (ps_if (pt_cmpR op_ge (pe_ix ix_list (pv 2) (pv 7) (fun _ _ => rfl)) (pe_op op_pow pe_int pe_int) (nomark _))
    (pss_cons (ps_expr (pe_bm PySem.F.plainAttrs_list PySem.F.slot_list_append PySem.F.type_list_append mt_append (pv 5) (pa_cons (pe_op op_mod (pe_callTy call_int1 (by rfl) T.z_int (by decide +kernel) (pa_cons (pe_ix ix_list (pv 4) (pv 7) (fun _ _ => rfl)) pa_nil)) pe_int) pa_nil)))
    (pss_one (ps_asg (pe_op op_fdiv (pe_ix ix_list (pv 4) (pv 7) (fun _ _ => rfl)) pe_int) (pg_sub (pv 4) (pv 7) set_list))))
    (pss_cons (ps_set (i := 8) sc_law_draws.nd rfl (Or.inl rfl) (pe_op op_mod (pe_callTy call_int1 (by rfl) T.z_int (by decide +kernel) (pa_cons (pe_op op_add (pe_op op_add (pe_op op_mul (pe_ix ix_list (pv 2) (pv 7) (fun _ _ => rfl)) pe_int) (pe_op op_mul (pv 6) pe_int)) pe_int) pa_nil)) pe_int))
    (pss_one (ps_expr (pe_bm PySem.F.plainAttrs_list PySem.F.slot_list_append PySem.F.type_list_append mt_append (pv 5) (pa_cons (pe_op op_mod (pe_callTy call_int1 (by rfl) T.z_int (by decide +kernel) (pa_cons (pe_op op_add (pe_op op_add (pe_op op_mul (pv 8) (pv 8)) (pe_op op_mul pe_int (pv 8))) (pv 6)) pa_nil)) pe_int) pa_nil)))))))))
    (pss_cons (ps_expr (pe_bm0 PySem.F.plainAttrs_list PySem.F.slot_list_reverse PySem.F.type_list_reverse mt_reverse (pv 5)))
    (pss_one (ps_ret (pv 5))))))))), ?_⟩
  -- cells
  refine ⟨_, rfl, a, rfl, ⟨_, hS⟩, fun c hc => ?_⟩
  refine lc_list (K := K) (a := a) (xs := ns.map V.int) (fun (j : Nat) (H' : Hp) => Same H H' ∧ H' c = some (.lst ((ns.take j).map V.int))) ?_ ?_ ?_ ?_
  · exact ⟨same_new hc _, by rw [upd_same, List.take_zero]; rfl⟩
  · rintro i H' _ ⟨s1, _⟩
    exact s1.seq hS
  · rintro i x H' hx ⟨s1, e1⟩
    rw [List.getElem?_map] at hx
    cases hn : ns[i]? with
    | none => rw [hn] at hx; cases hx
    | some n =>
      rw [hn] at hx
      obtain rfl : V.int n = x := Option.some.inj hx
      refine ⟨rfl, yes_if ?_⟩
      refine ⟨_, rfl, .inl ⟨n, rfl, _, e1, ?_, same_put s1 hc, ?_⟩⟩
      · rw [List.length_map, List.length_take]
        exact small1000 (by omega)
      · rw [upd_same, List.take_add_one, hn, List.map_append]
        rfl
  · rintro H1 ⟨s1, e1⟩
    rw [List.length_map, List.take_length] at e1
    -- at least one cell
    refine ⟨fun σ H2 => ∃ cs : List Int, cs ≠ [] ∧ cs.length ≤ 63 ∧ σ = [some (.ref a), some (.int m), some (.ref c), none, none, none, none, none, none] ∧ Same H H2 ∧ H2 c = some (.lst (cs.map V.int)), ?_, ?_⟩
    · refine ⟨_, rfl, _, _, rfl, .inl (sqd e1), rfl, _, rfl, ?_⟩
      refine ite2 (fun z => ?_) (fun z => ?_)
      · refine ⟨_, rfl, .inl ⟨rfl, _, sqd e1⟩, c, _, _, rfl, rfl, e1, ?_, ?_⟩
        · rw [List.length_map]
          exact small1000 (by omega)
        · have hz := int_eq z
          rw [List.length_map] at hz
          have : ns = [] := List.length_eq_zero_iff.mp (by omega)
          subst this
          exact ⟨[0], by simp, by decide, rfl, same_put s1 hc, upd_same⟩
      · have hz := int_ne z
        rw [List.length_map] at hz
        refine ⟨ns, ?_, hl, rfl, s1, e1⟩
        rintro rfl
        exact hz rfl
    · rintro σ H2 ⟨cs, hcs, hcl, rfl, s2, e2⟩
      have hpos : 0 < cs.length := List.length_pos_iff.mpr hcs
      -- rest, draws
      refine ⟨_, rfl, _, _, rfl, .inl (sqd e2), fun r hr2 => ?_⟩
      have ncr : c ≠ r := ne_of_none e2 hr2
      refine ⟨(Nat.le_of_ble_eq_true rfl), fun d hd => ?_⟩
      have ncd : c ≠ d := ne_of_none (by rw [upd_ne ncr]; exact e2) hd
      have nrd : r ≠ d := ne_of_none upd_same hd
      have hHr : H r = none := s2.free hr2
      have hHd : H d = none := (s2.trans (same_new hr2 _)).free hd
      refine ⟨_, rfl, m, rfl, by omega, by omega, for_range (lo := 0) (n := m.toNat) (fun (j : Nat) (σ : L2.St) (H' : Hp) => ∃ (rs ds : List Int) (y1 y2 y3 : Option V), σ = [some (.ref a), some (.int m), some (.ref c), none, some (.ref r), some (.ref d), y1, y2, y3] ∧ Same H H' ∧ H' c = some (.lst (cs.map V.int)) ∧ H' r = some (.lst (rs.map V.int)) ∧ rs.length = cs.length ∧ H' d = some (.lst (ds.map V.int)) ∧ ds.length ≤ j) ?_ ?_ ?_⟩
      · refine ⟨cs, [], none, none, none, rfl, (s2.trans (same_new hr2 _)).trans (same_new hd _), ?_, ?_, rfl, upd_same, Nat.le_refl _⟩
        · rw [upd_ne ncd, upd_ne ncr]; exact e2
        · rw [upd_ne nrd]; exact upd_same
      · rintro j σ H' hj ⟨rs, ds, y1, y2, y3, rfl, s3, ec, er, hrl, ed, hdl⟩
        have b0 := Int.emod_nonneg ((0 : Int) + (j : Int)) (show (((cs.map V.int).length : Nat) : Int) ≠ 0 by rw [List.length_map]; omega)
        have b1 : (((0 : Int) + (j : Int)) % (((cs.map V.int).length : Nat) : Int)) < (cs.length : Int) := by
          have h := Int.emod_lt_of_pos ((0 : Int) + (j : Int)) (show 0 < (((cs.map V.int).length : Nat) : Int) by rw [List.length_map]; omega)
          rw [List.length_map] at h ⊢
          exact h
        refine ⟨_, rfl, _, rfl, _, _, rfl, .inl (sqd ec), _, _, rfl, rfl, (by show 0 < (((cs.map V.int).length : Nat) : Int); rw [List.length_map]; omega), ?_⟩
        obtain ⟨cv, hcv, _⟩ := atI_map (f := V.int) (xs := cs) b0 b1
        obtain ⟨rv, hrv, _⟩ := atI_map (f := V.int) (xs := rs) b0 (by omega)
        refine ⟨_, rfl, _, rfl, _, _, _, _, rfl, rfl, sqd ec, hcv, _, _, rfl, rfl, ⟨by decide, by decide, by decide⟩, _, _, rfl, rfl, _, rfl, ?_⟩
        refine ite2 (fun z => ?_) (fun z => ?_)
        · refine ⟨_, rfl, .inl ⟨rfl, _, sqd ed⟩, _, rfl, _, rfl, _, _, _, _, rfl, rfl, sqd er, hrv, .inl ⟨_, rfl, _, _, rfl, rfl, (by show (0 : Int) < 1000; decide), d, _, _, rfl, rfl, ed, ?_, ?_⟩⟩
          · rw [List.length_map]
            exact small1000 (by omega)
          · have er2 : ∀ o, (upd H' d o) r = some (.lst (rs.map V.int)) := fun o => by rw [upd_ne nrd]; exact er
            refine ⟨_, rfl, _, rfl, _, _, _, _, rfl, rfl, sqd (er2 _), hrv, _, _, rfl, rfl, ⟨by decide, by decide⟩, _, rfl, _, rfl, r, _, _, _, rfl, rfl, er2 _, ixN_in b0 (by have h : (rs.map V.int).length = rs.length := List.length_map _; omega), ?_⟩
            refine ⟨rs.set (((0 : Int) + (j : Int)) % (((cs.map V.int).length : Nat) : Int)).toNat (rv / 1000), ds ++ [rv % 1000], _, _, _, rfl, same_put (same_put s3 hHd) hHr, ?_, ?_, ?_, ?_, ?_⟩
            · rw [upd_ne ncr, upd_ne ncd]; exact ec
            · rw [upd_same, List.map_set]
            · rw [List.length_set]; exact hrl
            · rw [upd_ne nrd.symm, upd_same, List.map_append]; rfl
            · rw [List.length_append, List.length_singleton]; omega
        · have o0 := fun z : Int => Int.emod_nonneg z (by decide : (2147483647 : Int) ≠ 0)
          have o1 := fun z : Int => Int.emod_lt_of_pos z (by decide : (0 : Int) < 2147483647)
          refine ⟨_, rfl, _, rfl, _, _, _, _, rfl, rfl, sqd ec, hcv, _, _, rfl, rfl, .inr ⟨by decide, by decide⟩, _, rfl, _, _, rfl, rfl, .inr ⟨by decide, by decide⟩, _, _, rfl, rfl, _, _, rfl, rfl, .inl ⟨_, rfl, _, _, rfl, rfl, (by show (0 : Int) < 2147483647; decide), ?_⟩⟩
          refine ⟨_, rfl, .inl ⟨rfl, _, sqd ed⟩, _, rfl, _, rfl, _, _, rfl, rfl, ?_, ?_⟩
          · left
            have h1 := o0 (cv * 48271 + (0 + (j : Int)) * 69621 + 11)
            have h2 := o1 (cv * 48271 + (0 + (j : Int)) * 69621 + 11)
            constructor
            · show -(2 ^ 64) < _
              omega
            · show _ < 2 ^ 64
              omega
          · refine ⟨_, rfl, _, _, rfl, rfl, .inl ⟨by decide, by decide⟩, _, _, rfl, rfl, _, rfl, _, _, rfl, rfl, .inl ⟨_, rfl, _, _, rfl, rfl, (by show (0 : Int) < 1000003; decide), d, _, _, rfl, rfl, ed, ?_, ?_⟩⟩
            · rw [List.length_map]
              exact small1000 (by omega)
            · refine ⟨rs, ds ++ [(((cv * 48271 + (0 + (j : Int)) * 69621 + 11) % 2147483647) * ((cv * 48271 + (0 + (j : Int)) * 69621 + 11) % 2147483647) + 3 * ((cv * 48271 + (0 + (j : Int)) * 69621 + 11) % 2147483647) + (0 + (j : Int))) % 1000003], _, _, _, rfl, same_put s3 hHd, ?_, ?_, hrl, ?_, ?_⟩
              · rw [upd_ne ncd]; exact ec
              · rw [upd_ne nrd]; exact er
              · rw [upd_same, List.map_append]; rfl
              · rw [List.length_append, List.length_singleton]; omega
      · rintro σ H' ⟨rs, ds, y1, y2, y3, rfl, s3, ec, er, hrl, ed, hdl⟩
        refine ⟨_, rfl, .inl ⟨rfl, _, sqd ed⟩, d, _, rfl, rfl, ed, ?_⟩
        refine ⟨_, rfl, q d _ (same_put s3 hHd) hHd ⟨ds.reverse, ?_⟩⟩
        rw [upd_same, List.map_reverse]
end
end NL

namespace NL
open PySem PySem.Spec PyProof.Rows L2
/-! ### what stands in an item: its tuple -/
def It.kids : It → List It
  | .num _ => []
  | .name _ => []
  | .lit _ => []
  | .un _ a => [a]
  | .dm _ a _ => [a]
  | .bin _ a b => [a, b]
  | .tri a b c => [a, b, c]
  | .grp _ l => l
def It.word : It → Str
  | .num _ => "number"
  | .name _ => "name"
  | .lit b => bstr b
  | .un w _ => w
  | .dm w _ _ => w
  | .bin w _ _ => w
  | .tri _ _ _ => "if"
  | .grp w _ => w
/-- the items stand at the values, one by one -/
def Kids (H : Hp) (l : List It) (xs : List V) : Prop := xs.length = l.length ∧ ∀ (k : Nat) i x, l[k]? = some i → xs[k]? = some x → ItemIn H i x
theorem Kids.mono {H H' : Hp} (t : Tp H H') {l : List It} {xs : List V} (h : Kids H l xs) : Kids H' l xs := ⟨h.1, fun k i x a b => (h.2 k i x a b).mono t⟩
theorem kids1 {H : Hp} {i : It} {x : V} (h : ItemIn H i x) : Kids H [i] [x] := ⟨rfl, fun k j y a b => by
  cases k with
  | zero => cases Option.some.inj a; cases Option.some.inj b; exact h
  | succ k => simp at a⟩
theorem Kids.cons {H : Hp} {i : It} {x : V} {l : List It} {xs : List V} (h : ItemIn H i x) (g : Kids H l xs) : Kids H (i :: l) (x :: xs) := ⟨by rw [List.length_cons, List.length_cons, g.1], fun k j y a b => by
  cases k with
  | zero => cases Option.some.inj a; cases Option.some.inj b; exact h
  | succ k => exact g.2 k j y (by simpa using a) (by simpa using b)⟩
theorem kids0 {H : Hp} : Kids H [] [] := ⟨rfl, fun k j y a b => by simp at a⟩
theorem Kids.get {H : Hp} {l : List It} {xs : List V} (h : Kids H l xs) {k : Nat} {x : V} (e : xs[k]? = some x) : ∃ i, l[k]? = some i ∧ ItemIn H i x ∧ i ∈ l := by
  have hk : k < xs.length := (List.getElem?_eq_some_iff.mp e).1
  rw [h.1] at hk
  exact ⟨l[k], List.getElem?_eq_getElem hk, h.2 k _ x (List.getElem?_eq_getElem hk) e, List.getElem_mem hk⟩
/-- an item's first part is its word -/
theorem ItemIn.head {H : Hp} {i : It} {a : Addr} (h : ItemIn H i (.ref a)) : ∃ r, H a = some (.tup (.str i.word :: r)) := by
  cases h <;> exact ⟨_, by assumption⟩
/-- the conditions' words are not the expressions' -/
def tests : List Str := ["true", "false", "less", "equal", "not", "all", "any"]
def wl (x : Str) (ys : List Str) : Bool := decide (x ∈ ys)
theorem word_test {xs : List Str} {B : Nat} {b : Bool} {i : It} (h : Okx xs B b i) : wl i.word tests = b := by
  cases h with
  | num _ => simp only [It.word]; decide +kernel
  | name _ => simp only [It.word]; decide +kernel
  | lit => rename_i b; cases b <;> (simp only [It.word]; decide +kernel)
  | abs _ => simp only [It.word]; decide +kernel
  | not _ => simp only [It.word]; decide +kernel
  | dm hw _ _ _ =>
    simp only [List.mem_cons, List.not_mem_nil, or_false] at hw
    rcases hw with rfl | rfl <;> (simp only [It.word]; decide +kernel)
  | bin hw _ _ =>
    simp only [List.mem_cons, List.not_mem_nil, or_false] at hw
    rcases hw with rfl | rfl | rfl | rfl | rfl <;> (simp only [It.word]; decide +kernel)
  | cmp hw _ _ =>
    simp only [List.mem_cons, List.not_mem_nil, or_false] at hw
    rcases hw with rfl | rfl <;> (simp only [It.word]; decide +kernel)
  | tri _ _ _ => simp only [It.word]; decide +kernel
  | grp hw _ _ =>
    simp only [List.mem_cons, List.not_mem_nil, or_false] at hw
    rcases hw with rfl | rfl <;> (simp only [It.word]; decide +kernel)
/-- 0: a leaf, 1: all and any, 2: div and mod, 3: the others -/
def It.cls : It → Nat
  | .num _ => 0
  | .name _ => 0
  | .lit _ => 0
  | .grp _ _ => 1
  | .dm _ _ _ => 2
  | _ => 3
theorem word_cls {xs : List Str} {B : Nat} {b : Bool} {i : It} (h : Okx xs B b i) :
    wl i.word ["number", "name", "true", "false"] = (i.cls == 0) ∧ wl i.word ["number", "name"] = (i.cls == 0 && !b) ∧ wl i.word ["true", "false"] = (i.cls == 0 && b) ∧
    wl i.word ["all", "any"] = (i.cls == 1) ∧ wl i.word ["div", "mod"] = (i.cls == 2) := by
  cases h with
  | num _ => simp only [It.word, It.cls]; decide +kernel
  | name _ => simp only [It.word, It.cls]; decide +kernel
  | lit => rename_i b; cases b <;> (simp only [It.word, It.cls]; decide +kernel)
  | abs _ => simp only [It.word, It.cls]; decide +kernel
  | not _ => simp only [It.word, It.cls]; decide +kernel
  | dm hw _ _ _ =>
    simp only [List.mem_cons, List.not_mem_nil, or_false] at hw
    rcases hw with rfl | rfl <;> (simp only [It.word, It.cls]; decide +kernel)
  | bin hw _ _ =>
    simp only [List.mem_cons, List.not_mem_nil, or_false] at hw
    rcases hw with rfl | rfl | rfl | rfl | rfl <;> (simp only [It.word, It.cls]; decide +kernel)
  | cmp hw _ _ =>
    simp only [List.mem_cons, List.not_mem_nil, or_false] at hw
    rcases hw with rfl | rfl <;> (simp only [It.word, It.cls]; decide +kernel)
  | tri _ _ _ => simp only [It.word, It.cls]; decide +kernel
  | grp hw _ _ =>
    simp only [List.mem_cons, List.not_mem_nil, or_false] at hw
    rcases hw with rfl | rfl <;> (simp only [It.word, It.cls]; decide +kernel)
/-- x in [a, b, ..], (a, b, ..): texts, the answer known -/
theorem inT {x : Str} {ys : List Str} {zs : List V} {b : Bool} (hz : zs = ys.map V.str) (h : wl x ys = b) : (if false = true then !inV (V.str x) zs else inV (V.str x) zs) = b := by
  rw [if_neg Bool.false_ne_true, hz, inV_str]; exact h
theorem ifT {c : Bool} {A B : Prop} (h : c = true) (a : A) : if c = true then A else B := by
  rw [if_pos h]; exact a
theorem ifF {c : Bool} {A B : Prop} (h : c = false) (b : B) : if c = true then A else B := by
  rw [if_neg (by rw [h]; exact Bool.false_ne_true)]; exact b
theorem blE {Q : VK} {b b' : Bool} {H : Hp} (h : b = b') (q : Q (.bl b') H) : Q (.bl b) H := by rw [h]; exact q
theorem flatW (ys : List Str) (zs : List V) (hz : zs = ys.map V.str) : zs.all flatV = true := by rw [hz]; exact flat_strs' ys
theorem atI0 {α : Type} {x : α} {r : List α} : atI (x :: r) 0 = some x := atI_nat (j := 0) rfl
theorem atI1 {α : Type} {x y : α} {r : List α} : atI (x :: y :: r) 1 = some y := atI_nat (j := 1) rfl
theorem atI2 {α : Type} {x y z : α} {r : List α} : atI (x :: y :: z :: r) 2 = some z := atI_nat (j := 2) rfl
/-- behind the first -/
theorem cut_tail (x : V) (r : List V) : cutV (x :: r) (some 1) none = r := by
  unfold cutV
  rw [show HT.sIx (x :: r).length 0 (some 1) = min 1 (x :: r).length from HT.sIx_nat (x :: r).length 0 1, HT.sIx_none]
  rw [show min 1 (x :: r).length = 1 by rw [List.length_cons]; omega]
  show List.take ((x :: r).length - 1) r = r
  rw [List.length_cons, Nat.add_sub_cancel]
  exact List.take_length
theorem not_whole (x : V) (r : List V) (hi : Option Int) : ¬ (HT.sIx (x :: r).length 0 (some 1) = 0 ∧ HT.sIx (x :: r).length (x :: r).length hi = (x :: r).length) := by
  rintro ⟨h, _⟩
  rw [show HT.sIx (x :: r).length 0 (some 1) = min 1 (x :: r).length from HT.sIx_nat (x :: r).length 0 1, List.length_cons] at h
  omega
/-- the parts of an item that is no leaf, no group and no div: behind its word -/
theorem ItemIn.rest {H : Hp} {i : It} {a : Addr} (h : ItemIn H i (.ref a)) (h3 : i.cls = 3) : ∃ r, H a = some (.tup (.str i.word :: r)) ∧ Kids H i.kids r := by
  cases h with
  | num _ => cases h3
  | name _ => cases h3
  | lit _ => cases h3
  | un e g => exact ⟨_, e, kids1 g⟩
  | dm _ _ => cases h3
  | bin e g k => exact ⟨_, e, .cons g (kids1 k)⟩
  | tri e g k l => exact ⟨_, e, .cons g (.cons k (kids1 l))⟩
  | grp _ _ _ _ => cases h3
theorem ItemIn.group {H : Hp} {i : It} {a : Addr} (h : ItemIn H i (.ref a)) (h3 : i.cls = 1) : ∃ b xs, H a = some (.tup [.str i.word, .ref b]) ∧ H b = some (.tup xs) ∧ Kids H i.kids xs := by
  cases h with
  | grp e f g k => exact ⟨_, _, e, f, g, k⟩
  | num _ => cases h3
  | name _ => cases h3
  | lit _ => cases h3
  | un e g => cases h3
  | dm _ _ => cases h3
  | bin e g k => cases h3
  | tri e g k l => cases h3
theorem ItemIn.divs {H : Hp} {i : It} {a : Addr} (h : ItemIn H i (.ref a)) (h3 : i.cls = 2) : ∃ x j n, H a = some (.tup [.str i.word, x, .int n]) ∧ ItemIn H j x ∧ i = .dm i.word j n := by
  cases h with
  | dm e g => exact ⟨_, _, _, e, g, rfl⟩
  | grp e f g k => cases h3
  | num _ => cases h3
  | name _ => cases h3
  | lit _ => cases h3
  | un e g => cases h3
  | bin e g k => cases h3
  | tri e g k l => cases h3
theorem cls_le (i : It) : i.cls = 0 ∨ i.cls = 1 ∨ i.cls = 2 ∨ i.cls = 3 := by cases i <;> simp [It.cls]
theorem kids_leaf {i : It} (h : i.cls = 0) : i.kids = [] := by cases i <;> first | rfl | cases h
theorem Kids.snoc {H : Hp} {l : List It} {vs : List V} {i : It} {v : V} (h : Kids H l vs) (hi : ItemIn H i v) : Kids H (l ++ [i]) (vs ++ [v]) := by
  obtain ⟨hl, hin⟩ := h
  refine ⟨by rw [List.length_append, List.length_append, hl] <;> rfl, fun k j x h1 h2 => ?_⟩
  by_cases hk : k < l.length
  · rw [List.getElem?_append_left (by omega)] at h1 h2
    exact hin k j x h1 h2
  · have hk3 : k = l.length := by
      have := (List.getElem?_eq_some_iff.mp h1).1
      rw [List.length_append, List.length_singleton] at this
      omega
    subst hk3
    rw [List.getElem?_append_right (by omega), Nat.sub_self] at h1
    rw [List.getElem?_append_right (by omega), hl, Nat.sub_self] at h2
    obtain rfl : i = j := Option.some.inj h1
    obtain rfl : v = x := Option.some.inj h2
    exact hi
theorem tp_put {H : Hp} {p : Addr} {xs : List V} {o : HO} (e : H p = some (.lst xs)) : Tp H (upd H p o) := fun a ys ea => by
  rw [upd_ne]
  · exact ea
  · rintro rfl
    rw [e] at ea; cases ea
theorem Kids.ok {H : Hp} {l : List It} {vs : List V} (h : Kids H l vs) {w : Str} {a b : Addr} (ha : H a = some (.tup [.str w, .ref b])) (hb : H b = some (.tup vs)) : ItemIn H (.grp w l) (.ref a) := .grp ha hb h.1 h.2
/-- a change at what was not there before keeps what is drawn -/
theorem Go.put2 {d p : Addr} {H H' : Hp} {o : HO} (g : Go d H H') (hp : H p = none) (n : p ≠ d) : Go d H (upd H' p o) := ⟨fun b u hb e => by
  rw [upd_ne (ne_of_none e hp)]
  exact g.fr b u hb e, by
  obtain ⟨ns, e⟩ := g.dr
  exact ⟨ns, by rw [upd_ne n.symm]; exact e⟩⟩
section
variable {P : Program} {w : World} {K : PySem.W.Frag} {mg : Str → Option Value} {base : Heap}
/-! ### _law_is_test -/
def spIsTest : Sp := fun vs H Q _ => ∃ (v : V) (i : It) (xs : List Str) (B : Nat) (b : Bool), vs = [v] ∧ ItemIn H i v ∧ Okx xs B b i ∧ ∀ H', Same H H' → Q (.bl b) H'
/-! ### _law_inner: the parts as a new list -/
def spInner : Sp := fun vs H Q _ => ∃ (v : V) (i : It) (xs : List Str) (B : Nat) (b : Bool), vs = [v] ∧ ItemIn H i v ∧ Okx xs B b i ∧ ∀ p ys H', Same H H' → H p = none → H' p = some (.lst ys) → Kids H' i.kids ys → Q (.ref p) H'
end
end NL

namespace NL
open PySem PySem.Spec PyProof.Rows L2
/-! ### how large values can be: a number for each leaf that goes into a product -/
mutual
def It.mx : It → Nat
  | .num _ => 1
  | .name _ => 1
  | .lit _ => 1
  | .un _ a => a.mx
  | .dm _ a _ => a.mx
  | .bin _ a b => a.mx + b.mx
  | .tri a b c => max a.mx (max b.mx c.mx)
  | .grp _ l => mxL l
def mxL : List It → Nat
  | [] => 0
  | a :: r => max a.mx (mxL r)
end
theorem two_mono {a b : Nat} (h : a ≤ b) : 2 ^ a ≤ 2 ^ b := Nat.pow_le_pow_right (by decide) h
mutual
theorem mx_dep : ∀ i : It, 2 * i.mx ≤ 2 ^ i.dep
  | .num _ => by rw [It.mx, It.dep]; decide
  | .name _ => by rw [It.mx, It.dep]; decide
  | .lit _ => by rw [It.mx, It.dep]; decide
  | .un _ a => by
    rw [It.mx, It.dep, Nat.pow_add]
    have := mx_dep a
    omega
  | .dm _ a _ => by
    rw [It.mx, It.dep, Nat.pow_add]
    have := mx_dep a
    omega
  | .bin _ a b => by
    rw [It.mx, It.dep, Nat.pow_add]
    have h1 := mx_dep a
    have h2 := mx_dep b
    have h3 := two_mono (Nat.le_max_left a.dep b.dep)
    have h4 := two_mono (Nat.le_max_right a.dep b.dep)
    omega
  | .tri a b c => by
    rw [It.mx, It.dep, Nat.pow_add]
    have h1 := mx_dep a
    have h2 := mx_dep b
    have h5 := mx_dep c
    have h3 := two_mono (Nat.le_max_left a.dep (max b.dep c.dep))
    have h4 := two_mono (Nat.le_trans (Nat.le_max_left b.dep c.dep) (Nat.le_max_right a.dep (max b.dep c.dep)))
    have h6 := two_mono (Nat.le_trans (Nat.le_max_right b.dep c.dep) (Nat.le_max_right a.dep (max b.dep c.dep)))
    omega
  | .grp _ l => by
    rw [It.mx, It.dep, Nat.pow_add]
    have := mxL_dep l
    omega
theorem mxL_dep : ∀ l : List It, mxL l ≤ 2 ^ depL l
  | [] => Nat.zero_le _
  | a :: r => by
    rw [mxL, depL]
    have h1 := mx_dep a
    have h2 := mxL_dep r
    have h3 := two_mono (Nat.le_max_left a.dep (depL r))
    have h4 := two_mono (Nat.le_max_right a.dep (depL r))
    omega
end
theorem mxL_in {j : It} : ∀ {l : List It}, j ∈ l → j.mx ≤ mxL l
  | a :: r, h => by
    rw [mxL]
    rcases List.mem_cons.mp h with e | e
    · rw [e]; omega
    · have := mxL_in e
      omega
theorem mx_kid {i j : It} (h : j ∈ i.kids) : j.mx ≤ i.mx := by
  cases i with
  | num _ => cases h
  | name _ => cases h
  | lit _ => cases h
  | un _ a => rw [It.mx, List.mem_singleton.mp h]; exact Nat.le_refl _
  | dm _ a _ => rw [It.mx, List.mem_singleton.mp h]; exact Nat.le_refl _
  | bin _ a b =>
    rw [It.mx]
    simp only [It.kids, List.mem_cons, List.not_mem_nil, or_false] at h
    rcases h with e | e <;> rw [e] <;> omega
  | tri a b c =>
    rw [It.mx]
    simp only [It.kids, List.mem_cons, List.not_mem_nil, or_false] at h
    rcases h with e | e | e <;> rw [e] <;> omega
  | grp _ l => rw [It.mx]; exact mxL_in h
theorem leaf_mx {xs : List Str} {B : Nat} {i : It} (h : Okx xs B false i) (hd : i.dep = 1) : i.mx = 1 := by
  cases h with
  | num _ => rw [It.mx]
  | name _ => rw [It.mx]
  | abs _ => rename_i a _; rw [It.dep] at hd; have := dep_pos a; omega
  | dm _ _ _ _ => rename_i a _ _ _ _ _; rw [It.dep] at hd; have := dep_pos a; omega
  | bin _ _ _ => rename_i a b _ _ _; rw [It.dep] at hd; have := dep_pos a; omega
  | tri _ _ _ => rename_i a b c _ _ _; rw [It.dep] at hd; have := dep_pos a; omega
/-! ### values and truths -/
def opv (w : Str) (x y : Int) : Int := if w = "add" then x + y else if w = "sub" then x - y else if w = "mul" then x * y else if w = "min" then (if y < x then y else x) else (if y > x then y else x)
mutual
def It.ev (ρ : Str → Int) : It → Int
  | .num n => n
  | .name x => ρ x
  | .lit _ => 0
  | .un _ a => if a.ev ρ < 0 then -(a.ev ρ) else a.ev ρ
  | .dm w a n => if w = "div" then a.ev ρ / n else a.ev ρ % n
  | .bin w a b => opv w (a.ev ρ) (b.ev ρ)
  | .tri c a b => if c.tr ρ = true then a.ev ρ else b.ev ρ
  | .grp _ _ => 0
def It.tr (ρ : Str → Int) : It → Bool
  | .num _ => false
  | .name _ => false
  | .lit b => b
  | .un _ a => !(a.tr ρ)
  | .dm _ _ _ => false
  | .bin w a b => if w = "less" then decide (a.ev ρ < b.ev ρ) else decide (a.ev ρ = b.ev ρ)
  | .tri _ _ _ => false
  | .grp w l => if w = "all" then (trL ρ l).all id else (trL ρ l).any id
def trL (ρ : Str → Int) : List It → List Bool
  | [] => []
  | a :: r => a.tr ρ :: trL ρ r
end
theorem trL_map (ρ : Str → Int) : ∀ l : List It, trL ρ l = l.map (It.tr ρ)
  | [] => by rw [trL]; rfl
  | a :: r => by rw [trL, trL_map ρ r]; rfl
structure Bs (xs : List Str) (B k : Nat) (ρ : Str → Int) : Prop where
  num : ∀ n : Int, n.natAbs ≤ B + 1 → Builtin.Int.intBits n ≤ k
  env : ∀ x ∈ xs, Builtin.Int.intBits (ρ x) ≤ k
  pos : 1 ≤ k
theorem opv_bits {w : Str} {x y : Int} {m n : Nat} (hx : Builtin.Int.intBits x ≤ m) (hy : Builtin.Int.intBits y ≤ n) (hm : 1 ≤ m) (hn : 1 ≤ n) : Builtin.Int.intBits (opv w x y) ≤ m + n := by
  unfold opv
  split
  · have := intBits_add_le hx hy; omega
  · split
    · have := intBits_sub_le hx hy; omega
    · split
      · exact intBits_mul_le hx hy
      · split
        · have := intBits_ite_le (c := y < x) hy hx; omega
        · have := intBits_ite_le (c := y > x) hy hx; omega
theorem ev_bits {xs : List Str} {B k : Nat} {ρ : Str → Int} (hB : Bs xs B k ρ) {b : Bool} {i : It} (h : Okx xs B b i) : b = false → Builtin.Int.intBits (i.ev ρ) ≤ k * i.mx ∧ 1 ≤ i.mx := by
  have hk := hB.pos
  induction h with
  | num h => intro _; rw [It.ev, It.mx, Nat.mul_one]; exact ⟨hB.num _ (by omega), Nat.le_refl 1⟩
  | name h => intro _; rw [It.ev, It.mx, Nat.mul_one]; exact ⟨hB.env _ h, Nat.le_refl 1⟩
  | lit => intro e; cases e
  | abs h ih =>
    rename_i a
    intro _
    obtain ⟨h1, h2⟩ := ih rfl
    rw [It.ev, It.mx]
    refine ⟨?_, h2⟩
    have := intBits_ite_le (c := It.ev ρ a < 0) (intBits_neg_le h1) h1
    rw [Nat.max_self] at this
    exact this
  | not h ih => intro e; cases e
  | dm hw h h1 h2 ih =>
    rename_i w a n
    intro _
    obtain ⟨g1, g2⟩ := ih rfl
    rw [It.ev, It.mx]
    refine ⟨?_, g2⟩
    split
    · have := intBits_fdiv_le (y := n) g1
      rw [Int.fdiv_eq_ediv_of_nonneg _ (by omega)] at this
      exact this
    · have := bits_emod g1 (hB.num n h2)
      have h3 : k ≤ k * a.mx := Nat.le_mul_of_pos_right k g2
      show Builtin.Int.intBits _ ≤ _
      omega
  | bin hw h g ih jh =>
    rename_i w a b
    intro _
    obtain ⟨g1, g2⟩ := ih rfl
    obtain ⟨g3, g4⟩ := jh rfl
    rw [It.ev, It.mx, Nat.mul_add]
    exact ⟨opv_bits g1 g3 (Nat.mul_pos hk g2) (Nat.mul_pos hk g4), by omega⟩
  | cmp hw h g ih jh => intro e; cases e
  | tri h g l ih jh lh =>
    rename_i c a b
    intro _
    obtain ⟨g1, g2⟩ := jh rfl
    obtain ⟨g3, g4⟩ := lh rfl
    rw [It.ev, It.mx]
    refine ⟨?_, by omega⟩
    have m1 : k * a.mx ≤ k * max c.mx (max a.mx b.mx) := Nat.mul_le_mul_left k (by omega)
    have m2 : k * b.mx ≤ k * max c.mx (max a.mx b.mx) := Nat.mul_le_mul_left k (by omega)
    split
    · exact Nat.le_trans g1 m1
    · exact Nat.le_trans g3 m2
  | grp hw hl h ih => intro e; cases e
/-- the dict at a has these values -/
def EnvIn (H : Hp) (a : Addr) (ρ : Str → Int) (xs : List Str) : Prop := ∃ kvs : List (Key × V), H a = some (.dK kvs) ∧ ∀ x ∈ xs, valV kvs (Sum.inr x) = some (.int (ρ x))
theorem EnvIn.same {H H' : Hp} {a : Addr} {ρ : Str → Int} {xs : List Str} (h : EnvIn H a ρ xs) (s : Same H H') : EnvIn H' a ρ xs := by
  obtain ⟨kvs, e, g⟩ := h
  exact ⟨kvs, s _ _ e, g⟩
/-! ### dicts whose keys stand once, and whose values are ints -/
def Cn (B : Nat) (kvs : List (Key × V)) : Prop := ∀ p ∈ kvs, valV kvs p.1 = some p.2 ∧ ∃ n : Int, p.2 = .int n ∧ n.natAbs ≤ B
theorem Cn.put {B : Nat} {kvs : List (Key × V)} (h : Cn B kvs) (k : Key) {n : Int} (hn : n.natAbs ≤ B) : Cn B (putK kvs k (.int n)) := by
  intro p hp
  rw [valV_put]
  unfold putK at hp
  split at hp
  · obtain ⟨q, hq, rfl⟩ := List.mem_map.mp hp
    obtain ⟨h1, h2⟩ := h q hq
    by_cases e : q.1 = k
    · rw [if_pos e]
      exact ⟨if_pos e, n, rfl, hn⟩
    · rw [if_neg e]
      exact ⟨by rw [if_neg e]; exact h1, h2⟩
  · rename_i ha
    rcases List.mem_append.mp hp with hq | hq
    · obtain ⟨h1, h2⟩ := h p hq
      have e : ¬ p.1 = k := fun e => ha (List.any_eq_true.mpr ⟨p, hq, decide_eq_true e⟩)
      exact ⟨by rw [if_neg e]; exact h1, h2⟩
    · rw [List.mem_singleton.mp hq]
      exact ⟨if_pos rfl, n, rfl, hn⟩
theorem Cn.val {B : Nat} {kvs : List (Key × V)} (h : Cn B kvs) {k : Key} {v : V} (e : valV kvs k = some v) : ∃ n : Int, v = .int n ∧ n.natAbs ≤ B := by
  unfold valV at e
  cases hf : kvs.find? (fun kv => decide (kv.1 = k)) with
  | none => rw [hf] at e; cases e
  | some p =>
    rw [hf] at e
    obtain rfl : p.2 = v := Option.some.inj e
    exact (h p (List.mem_of_find?_eq_some hf)).2
end NL

namespace NL
open PySem PySem.Spec PyProof.Rows L2
/-! ### what an expression is worth, by a fact that stays -/
def EvP (te : TE) (σ : L2.St) (H : Hp) (P : V → Hp → Prop) : Prop := ∀ H1, Same H H1 → ∀ Q : VK, (∀ v H2, Same H1 H2 → P v H2 → Q v H2) → te σ H1 Q
def EvA (ta : TA) (σ : L2.St) (H : Hp) (P : List V → Hp → Prop) : Prop := ∀ H1, Same H H1 → ∀ Q : List V → Hp → Prop, (∀ vs H2, Same H1 H2 → P vs H2 → Q vs H2) → ta σ H1 Q
def Mo (P : V → Hp → Prop) : Prop := ∀ v H H', Same H H' → P v H → P v H'
def MoA (P : List V → Hp → Prop) : Prop := ∀ vs H H', Same H H' → P vs H → P vs H'
section
variable {σ : L2.St} {H : Hp} {P P' P1 : V → Hp → Prop} {Pr Pa : List V → Hp → Prop} {te : TE} {ta tr : TA} {v : V} {K : PySem.W.Frag}
theorem evp_imp (h : EvP te σ H P) (g : ∀ v H', Same H H' → P v H' → P' v H') : EvP te σ H P' := fun H1 s Q q => h H1 s Q fun v H2 s2 p => q v H2 s2 (g v H2 (s.trans s2) p)
theorem eva_imp {Pa' : List V → Hp → Prop} (h : EvA ta σ H Pa) (g : ∀ v H', Same H H' → Pa v H' → Pa' v H') : EvA ta σ H Pa' := fun H1 s Q q => h H1 s Q fun v H2 s2 p => q v H2 s2 (g v H2 (s.trans s2) p)
theorem evp_c : EvP (tC v) σ H (fun x _ => x = v) := fun H1 _ Q q => q v H1 (Same.refl H1) rfl
theorem evp_v {i : Nat} (h : σ[i]? = some (some v)) : EvP (tVar i) σ H (fun x _ => x = v) := fun H1 _ Q q => ⟨v, h, q v H1 (Same.refl H1) rfl⟩
theorem eva_nil : EvA tNil σ H (fun vs _ => vs = []) := fun H1 _ Q q => q [] H1 (Same.refl H1) rfl
theorem eva_cons (h : EvP te σ H P) (m : Mo P) (hr : EvA tr σ H Pr) : EvA (tCons te tr) σ H (fun vs H' => ∃ v r, vs = v :: r ∧ P v H' ∧ Pr r H') := fun H1 s Q q =>
  h H1 s _ fun v H2 s2 p => hr H2 (s.trans s2) _ fun r H3 s3 pr => q _ H3 (s2.trans s3) ⟨v, r, rfl, m _ _ _ s3 p, pr⟩
theorem evp_tup (h : EvA ta σ H Pa) (m : MoA Pa) (hl : ∀ vs H', Pa vs H' → vs.length ≤ 1000) : EvP (tTup ta) σ H (fun v H' => ∃ p xs, v = .ref p ∧ H' p = some (.tup xs) ∧ Pa xs H') := fun H1 s Q q =>
  h H1 s _ fun xs H2 s2 pa => ⟨Nat.le_of_lt (small1000 (hl _ _ pa)), fun p hp => q _ _ (s2.trans (same_new hp _)) ⟨p, xs, rfl, upd_same, m _ _ _ (same_new hp _) pa⟩⟩
/-- a tuple of constants and slots: its items -/
theorem evp_fix {xs : List V} (h : EvA ta σ H (fun vs _ => vs = xs)) (hl : xs.length ≤ 1000) : EvP (tTup ta) σ H (fun v H' => ∃ p, v = .ref p ∧ H' p = some (.tup xs)) :=
  evp_imp (evp_tup h (fun _ _ _ _ e => e) (fun vs _ e => by rw [e]; exact hl)) fun v H' _ ⟨p, ys, e, e2, e3⟩ => ⟨p, e, by rw [e2, e3]⟩
theorem eva_c {xs : List V} (hr : EvA tr σ H (fun vs _ => vs = xs)) : EvA (tCons (tC v) tr) σ H (fun vs _ => vs = v :: xs) := fun H1 s Q q => hr H1 s _ fun r H2 s2 e => q _ H2 s2 (by rw [e])
theorem eva_v {i : Nat} {xs : List V} (h : σ[i]? = some (some v)) (hr : EvA tr σ H (fun vs _ => vs = xs)) : EvA (tCons (tVar i) tr) σ H (fun vs _ => vs = v :: xs) := fun H1 s Q q => ⟨v, h, hr H1 s _ fun r H2 s2 e => q _ H2 s2 (by rw [e])⟩
/-- a list of items that are all of one kind -/
def All (n : Nat) (P : V → Hp → Prop) : List V → Hp → Prop := fun vs H => vs.length = n ∧ ∀ v ∈ vs, P v H
theorem all_mo {n : Nat} (m : Mo P) : MoA (All n P) := fun vs H H' s h => ⟨h.1, fun v hv => m v H H' s (h.2 v hv)⟩
theorem eva_all0 : EvA tNil σ H (All 0 P) := eva_imp eva_nil fun vs _ _ e => ⟨by rw [e] <;> rfl, fun v hv => by rw [e] at hv; cases hv⟩
theorem eva_all {n : Nat} (m : Mo P) (h : EvP te σ H P) (hr : EvA tr σ H (All n P)) : EvA (tCons te tr) σ H (All (n + 1) P) := eva_imp (eva_cons h m hr) fun vs H' _ ⟨v, r, e, p, pr⟩ => ⟨by rw [e, List.length_cons, pr.1], fun x hx => by
  rw [e] at hx
  rcases List.mem_cons.mp hx with h | h
  · rw [h]; exact p
  · exact pr.2 x h⟩
theorem evp_lst (h : EvA ta σ H Pa) (m : MoA Pa) (hl : ∀ vs H', Pa vs H' → vs.length ≤ 1000) : EvP (tLst ta) σ H (fun v H' => ∃ p xs, v = .ref p ∧ H' p = some (.lst xs) ∧ Pa xs H' ∧ H p = none) := fun H1 s Q q =>
  h H1 s _ fun xs H2 s2 pa => ⟨Nat.le_of_lt (small1000 (hl _ _ pa)), fun p hp => q _ _ (s2.trans (same_new hp _)) ⟨p, xs, rfl, upd_same, m _ _ _ (same_new hp _) pa, (s.trans s2).free hp⟩⟩
/-- (w,) + both -/
theorem evp_wcat {w : V} {i : Nat} {b : Addr} {xs : List V} (hb : H b = some (.tup xs)) (hx : xs ≠ []) (hl : xs.length ≤ 900) (hi : σ[i]? = some (some (.ref b))) :
    EvP (tOp (rCatA K) (tTup (tCons (tC w) tNil)) (tVar i)) σ H (fun v H' => ∃ p, v = .ref p ∧ H' p = some (.tup (w :: xs))) := fun H1 s Q q => by
  refine ⟨(Nat.le_of_ble_eq_true rfl), fun p hp => ⟨_, hi, p, b, _, _, rfl, rfl, sqt upd_same, sqt (same_new hp _ _ _ (s _ _ hb)), ?_, (fun h => by cases h), fun _ h => absurd h hx, fun _ _ p2 hp2 => ?_⟩⟩
  · rw [List.length_singleton]
    exact Nat.le_of_lt (small1000 (by omega))
  · exact q _ _ ((same_new hp _).trans (same_new hp2 _)) ⟨p2, rfl, upd_same⟩
end
theorem valE {Q : VK} {a b : Int} {H : Hp} (h : a = b) (q : Q (.int b) H) : Q (.int a) H := by rw [h]; exact q
/-! ### items one level deeper -/
def ItP (xs : List Str) (B D S : Nat) : V → Hp → Prop := fun v H => ∃ (i : It) (b : Bool), ItemIn H i v ∧ Okx xs B b i ∧ i.dep = D ∧ i.mx ≤ S
theorem itp_mo {xs : List Str} {B D S : Nat} : Mo (ItP xs B D S) := fun v H H' s ⟨i, b, h, r⟩ => ⟨i, b, h.mono (Tp.same s), r⟩
section
variable {P : Program} {w : World} {K : PySem.W.Frag} {mg : Str → Option Value} {base : Heap}
/-! ### _law_depth -/
def spDepth (n : Nat) : Sp := fun vs H Q _ => ∃ (v : V) (i : It) (xs : List Str) (B : Nat) (b : Bool), vs = [v] ∧ ItemIn H i v ∧ Okx xs B b i ∧ i.dep ≤ n ∧ ∀ H', Same H H' → Q (.int i.dep) H'
theorem kids_dep {i : It} : i.dep = 1 + depL i.kids := by
  cases i <;> simp only [It.dep, It.kids, depL] <;> omega
theorem kids_ok {xs : List Str} {B : Nat} {b : Bool} {i : It} (h : Okx xs B b i) : ∀ j ∈ i.kids, ∃ b', Okx xs B b' j := by
  intro j hj
  cases h <;> simp only [It.kids, List.mem_cons, List.not_mem_nil, or_false] at hj
  case abs h => rw [hj]; exact ⟨_, h⟩
  case not h => rw [hj]; exact ⟨_, h⟩
  case dm h _ _ => rw [hj]; exact ⟨_, h⟩
  case bin h g =>
    rcases hj with e | e <;> rw [e]
    · exact ⟨_, h⟩
    · exact ⟨_, g⟩
  case cmp h g =>
    rcases hj with e | e <;> rw [e]
    · exact ⟨_, h⟩
    · exact ⟨_, g⟩
  case tri h g k =>
    rcases hj with e | e | e <;> rw [e]
    · exact ⟨_, h⟩
    · exact ⟨_, g⟩
    · exact ⟨_, k⟩
  case grp h => exact ⟨_, h j hj⟩
theorem kids_len {xs : List Str} {B : Nat} {b : Bool} {i : It} (h : Okx xs B b i) : i.kids.length ≤ 100 := by
  cases h <;> simp only [It.kids, List.length_cons, List.length_nil] <;> omega
theorem depL_in {l : List It} {i : It} (h : i ∈ l) : i.dep ≤ depL l := by
  induction l with
  | nil => cases h
  | cons a r ih =>
    rw [depL]
    rcases List.mem_cons.mp h with e | e
    · rw [e]; omega
    · have := ih e
      omega
theorem depL_max : ∀ l : List It, (∀ y ∈ (0 :: l.map fun i => (i.dep : Int)), y ≤ (depL l : Int)) ∧ (depL l : Int) ∈ (0 :: l.map fun i => (i.dep : Int))
  | [] => by
    rw [depL]
    refine ⟨fun y hy => ?_, List.mem_cons_self⟩
    rcases List.mem_cons.mp hy with h | h
    · rw [h]; exact Int.le_refl 0
    · cases h
  | a :: r => by
    obtain ⟨h1, h2⟩ := depL_max r
    rw [depL]
    refine ⟨fun y hy => ?_, ?_⟩
    · rw [List.map_cons] at hy
      rcases List.mem_cons.mp hy with h | h
      · omega
      · rcases List.mem_cons.mp h with h | h
        · omega
        · have := h1 y (List.mem_cons_of_mem _ h)
          omega
    · rw [List.map_cons]
      rcases Nat.le_total a.dep (depL r) with h | h
      · rw [Nat.max_eq_right h]
        rcases List.mem_cons.mp h2 with g | g
        · rw [g]; exact List.mem_cons_self
        · exact List.mem_cons_of_mem _ (List.mem_cons_of_mem _ g)
      · rw [Nat.max_eq_left h]
        exact List.mem_cons_of_mem _ List.mem_cons_self
end
end NL

namespace NL
open PySem PySem.Spec PyProof.Rows L2
theorem gn {i : Nat} {v : V} {σ : L2.St} {H : Hp} {Q : L2.St → Hp → Prop} (h : Q (σ.set i (some v)) H) : gName i v σ H Q := h
theorem r_seq {t u : TS} {D : Ends} {σ : L2.St} {H : Hp} (h : t { D with nx := u D } σ H) : tSeq t u D σ H := h
theorem r_asg {te : TE} {g : TG} {D : Ends} {σ : L2.St} {H : Hp} (h : te σ H fun x H1 => g x σ H1 D.nx) : tAsg te g D σ H := h
theorem r_op {r : R2} {ta tb : TE} {σ : L2.St} {H : Hp} {Q : VK} (h : ta σ H fun x H1 => tb σ H1 fun y H2 => r x y H2 Q) : tOp r ta tb σ H Q := h
theorem mo_eq {v : V} : Mo (fun x _ => x = v) := fun _ _ _ _ e => e
theorem moa_eq {xs : List V} : MoA (fun vs _ => vs = xs) := fun _ _ _ _ e => e
theorem moa_cons {P : V → Hp → Prop} {Pr : List V → Hp → Prop} (m : Mo P) (g : MoA Pr) : MoA (fun vs H' => ∃ v r, vs = v :: r ∧ P v H' ∧ Pr r H') := fun _ _ _ s ⟨v, r, e, p, q⟩ => ⟨v, r, e, m _ _ _ s p, g _ _ _ s q⟩
/-- a tuple of these items is at v -/
abbrev TupP (xs : List V) : V → Hp → Prop := fun v H => ∃ p, v = .ref p ∧ H p = some (.tup xs)
theorem mo_tup {xs : List V} : Mo (TupP xs) := fun _ _ _ s ⟨p, e, h⟩ => ⟨p, e, s _ _ h⟩
section
variable {σ : L2.St} {H : Hp} {v sv : V} {i si : It} {xs : List Str} {B : Nat} {K : PySem.W.Frag}
theorem p_abs (hv : σ[0]? = some (some v)) (hi : ItemIn H i v) (ho : Okx xs B false i) : EvP (tTup (tCons (tC (.str "abs")) (tCons (tVar 0) tNil))) σ H (ItP xs B (i.dep + 1) (i.mx + 3)) :=
  evp_imp (evp_fix (eva_c (eva_v hv eva_nil)) (Nat.le_of_ble_eq_true rfl)) fun x H' s ⟨p, e, h⟩ => ⟨.un "abs" i, false, by rw [e]; exact .un h (hi.mono (Tp.same s)), .abs ho, by rw [It.dep]; omega, by rw [It.mx]; omega⟩
theorem p_not (hv : σ[0]? = some (some v)) (hi : ItemIn H i v) (ho : Okx xs B true i) : EvP (tTup (tCons (tC (.str "not")) (tCons (tVar 0) tNil))) σ H (ItP xs B (i.dep + 1) (i.mx + 3)) :=
  evp_imp (evp_fix (eva_c (eva_v hv eva_nil)) (Nat.le_of_ble_eq_true rfl)) fun x H' s ⟨p, e, h⟩ => ⟨.un "not" i, true, by rw [e]; exact .un h (hi.mono (Tp.same s)), .not ho, by rw [It.dep]; omega, by rw [It.mx]; omega⟩
theorem p_dm {w : Str} {n : Int} (hw : w ∈ (["div", "mod"] : List Str)) (hn : 1 ≤ n ∧ n.natAbs ≤ B + 1) (hv : σ[0]? = some (some v)) (hi : ItemIn H i v) (ho : Okx xs B false i) : EvP (tTup (tCons (tC (.str w)) (tCons (tVar 0) (tCons (tC (.int n)) tNil)))) σ H (ItP xs B (i.dep + 1) (i.mx + 3)) :=
  evp_imp (evp_fix (eva_c (eva_v hv (eva_c eva_nil))) (Nat.le_of_ble_eq_true rfl)) fun x H' s ⟨p, e, h⟩ => ⟨.dm w i n, false, by rw [e]; exact .dm h (hi.mono (Tp.same s)), .dm hw ho hn.1 hn.2, by rw [It.dep]; omega, by rw [It.mx]; omega⟩
theorem p_bin {w : Str} {k : Nat} {b : Addr} {ys : List V} (hb : H b = some (.tup ys)) (hys : ys = [v, sv] ∨ ys = [sv, v]) (hσ : σ[k]? = some (some (.ref b))) (hi : ItemIn H i v) (hsi : ItemIn H si sv) (ho : Okx xs B false i) (hso : Okx xs B false si) (hd : si.dep = 1) (hz : si.mx = 1)
    (hw : w ∈ (["add", "sub", "mul", "min", "max", "less", "equal"] : List Str)) : EvP (tOp (rCatA K) (tTup (tCons (tC (.str w)) tNil)) (tVar k)) σ H (ItP xs B (i.dep + 1) (i.mx + 3)) := by
  have hp := dep_pos i
  have hl : ys.length = 2 := by rcases hys with e | e <;> rw [e] <;> rfl
  refine evp_imp (evp_wcat hb (by intro h; rw [h] at hl; cases hl) (by omega) hσ) fun x H' s ⟨p, e, h⟩ => ?_
  have hok : ∀ a b, Okx xs B false a → Okx xs B false b → ∃ t, Okx xs B t (.bin w a b) := fun a b ha hb => by
    by_cases h7 : w ∈ (["less", "equal"] : List Str)
    · exact ⟨_, .cmp h7 ha hb⟩
    · refine ⟨_, .bin ?_ ha hb⟩
      simp only [List.mem_cons, List.not_mem_nil, or_false] at hw h7 ⊢
      rcases hw with h | h | h | h | h | h | h
      · exact .inl h
      · exact .inr (.inl h)
      · exact .inr (.inr (.inl h))
      · exact .inr (.inr (.inr (.inl h)))
      · exact .inr (.inr (.inr (.inr h)))
      · exact absurd (.inl h) h7
      · exact absurd (.inr h) h7
  have hi' := hi.mono (Tp.same s)
  have hsi' := hsi.mono (Tp.same s)
  rw [e]
  rcases hys with ey | ey
  · rw [ey] at h
    obtain ⟨t, ht⟩ := hok i si ho hso
    exact ⟨.bin w i si, t, .bin h hi' hsi', ht, by rw [It.dep]; omega, by rw [It.mx]; omega⟩
  · rw [ey] at h
    obtain ⟨t, ht⟩ := hok si i hso ho
    exact ⟨.bin w si i, t, .bin h hsi' hi', ht, by rw [It.dep]; omega, by rw [It.mx]; omega⟩
theorem p_if1 (hv : σ[0]? = some (some v)) (hs : σ[1]? = some (some sv)) (hi : ItemIn H i v) (hsi : ItemIn H si sv) (ho : Okx xs B false i) (hso : Okx xs B false si) (hd : si.dep = 1) (hz : si.mx = 1) :
    EvP (tTup (tCons (tC (.str "if")) (tCons (tTup (tCons (tC (.str "true")) tNil)) (tCons (tVar 0) (tCons (tVar 1) tNil))))) σ H (ItP xs B (i.dep + 1) (i.mx + 3)) := by
  have hp := dep_pos i
  refine evp_imp (evp_tup (eva_cons evp_c mo_eq (eva_cons (evp_fix (eva_c eva_nil) (Nat.le_of_ble_eq_true rfl)) mo_tup (eva_v hv (eva_v hs eva_nil)))) (moa_cons mo_eq (moa_cons mo_tup moa_eq)) ?_) ?_
  · rintro vs H' ⟨_, _, rfl, _, _, _, rfl, _, rfl⟩
    exact Nat.le_of_ble_eq_true rfl
  · rintro x H' s ⟨p, _, rfl, h, _, _, rfl, rfl, _, _, rfl, ⟨p2, rfl, h2⟩, rfl⟩
    refine ⟨.tri (.lit true) i si, false, .tri h (.lit h2) (hi.mono (Tp.same s)) (hsi.mono (Tp.same s)), .tri .lit ho hso, ?_, ?_⟩
    · simp only [It.dep]; omega
    · simp only [It.mx]; omega
theorem p_if2 (hv : σ[0]? = some (some v)) (hs : σ[1]? = some (some sv)) (hi : ItemIn H i v) (hsi : ItemIn H si sv) (ho : Okx xs B false i) (hso : Okx xs B false si) (hd : si.dep = 1) (hz : si.mx = 1) :
    EvP (tTup (tCons (tC (.str "if")) (tCons (tTup (tCons (tC (.str "false")) tNil)) (tCons (tVar 1) (tCons (tVar 0) tNil))))) σ H (ItP xs B (i.dep + 1) (i.mx + 3)) := by
  have hp := dep_pos i
  refine evp_imp (evp_tup (eva_cons evp_c mo_eq (eva_cons (evp_fix (eva_c eva_nil) (Nat.le_of_ble_eq_true rfl)) mo_tup (eva_v hs (eva_v hv eva_nil)))) (moa_cons mo_eq (moa_cons mo_tup moa_eq)) ?_) ?_
  · rintro vs H' ⟨_, _, rfl, _, _, _, rfl, _, rfl⟩
    exact Nat.le_of_ble_eq_true rfl
  · rintro x H' s ⟨p, _, rfl, h, _, _, rfl, rfl, _, _, rfl, ⟨p2, rfl, h2⟩, rfl⟩
    refine ⟨.tri (.lit false) si i, false, .tri h (.lit h2) (hsi.mono (Tp.same s)) (hi.mono (Tp.same s)), .tri .lit hso ho, ?_, ?_⟩
    · simp only [It.dep]; omega
    · simp only [It.mx]; omega
theorem p_if3 (hv : σ[0]? = some (some v)) (hs : σ[1]? = some (some sv)) (hi : ItemIn H i v) (hsi : ItemIn H si sv) (ho : Okx xs B true i) (hso : Okx xs B false si) (hd : si.dep = 1) (hz : si.mx = 1) :
    EvP (tTup (tCons (tC (.str "if")) (tCons (tVar 0) (tCons (tVar 1) (tCons (tVar 1) tNil))))) σ H (ItP xs B (i.dep + 1) (i.mx + 3)) :=
  have hp := dep_pos i
  evp_imp (evp_fix (eva_c (eva_v hv (eva_v hs (eva_v hs eva_nil)))) (Nat.le_of_ble_eq_true rfl)) fun x H' s ⟨p, e, h⟩ => ⟨.tri i si si, false, by rw [e]; exact .tri h (hi.mono (Tp.same s)) (hsi.mono (Tp.same s)) (hsi.mono (Tp.same s)), .tri ho hso hso, by rw [It.dep]; omega, by rw [It.mx]; omega⟩
/-- the parts of a group -/
def GrP (xs : List Str) (B N D S : Nat) : V → Hp → Prop := fun x H => ∃ p ys l, x = .ref p ∧ H p = some (.tup ys) ∧ Kids H l ys ∧ (∀ j ∈ l, Okx xs B true j) ∧ depL l = D ∧ mxL l ≤ S ∧ l.length ≤ N
theorem grp_mo {N D S : Nat} : Mo (GrP xs B N D S) := fun _ _ _ s ⟨p, ys, l, e, h, k, r⟩ => ⟨p, ys, l, e, s _ _ h, k.mono (Tp.same s), r⟩
theorem p_parts1 (hv : σ[0]? = some (some v)) (hi : ItemIn H i v) (ho : Okx xs B true i) : EvP (tTup (tCons (tVar 0) (tCons (tTup (tCons (tC (.str "true")) tNil)) tNil))) σ H (GrP xs B 2 i.dep (i.mx + 1)) := by
  have hp := dep_pos i
  refine evp_imp (evp_tup (eva_cons (evp_v hv) mo_eq (eva_cons (evp_fix (eva_c eva_nil) (Nat.le_of_ble_eq_true rfl)) mo_tup eva_nil)) (moa_cons mo_eq (moa_cons mo_tup moa_eq)) ?_) ?_
  · rintro vs H' ⟨_, _, rfl, _, _, _, rfl, _, rfl⟩
    exact Nat.le_of_ble_eq_true rfl
  · rintro x H' s ⟨p, _, rfl, h, _, _, rfl, rfl, _, _, rfl, ⟨p2, rfl, h2⟩, rfl⟩
    refine ⟨p, _, [i, .lit true], rfl, h, .cons (hi.mono (Tp.same s)) (kids1 (.lit h2)), ?_, ?_, ?_, Nat.le_refl 2⟩
    · intro j hj
      simp only [List.mem_cons, List.not_mem_nil, or_false] at hj
      rcases hj with e | e <;> rw [e]
      · exact ho
      · exact .lit
    · simp only [depL, It.dep]; omega
    · simp only [mxL, It.mx]; omega
theorem p_parts2 (hv : σ[0]? = some (some v)) (hi : ItemIn H i v) (ho : Okx xs B true i) : EvP (tTup (tCons (tTup (tCons (tC (.str "false")) tNil)) (tCons (tVar 0) tNil))) σ H (GrP xs B 2 i.dep (i.mx + 1)) := by
  have hp := dep_pos i
  refine evp_imp (evp_tup (eva_cons (evp_fix (eva_c eva_nil) (Nat.le_of_ble_eq_true rfl)) mo_tup (eva_v hv eva_nil)) (moa_cons mo_tup moa_eq) ?_) ?_
  · rintro vs H' ⟨_, _, rfl, _, rfl⟩
    exact Nat.le_of_ble_eq_true rfl
  · rintro x H' s ⟨p, _, rfl, h, _, _, rfl, ⟨p2, rfl, h2⟩, rfl⟩
    refine ⟨p, _, [.lit false, i], rfl, h, .cons (.lit h2) (kids1 (hi.mono (Tp.same s))), ?_, ?_, ?_, Nat.le_refl 2⟩
    · intro j hj
      simp only [List.mem_cons, List.not_mem_nil, or_false] at hj
      rcases hj with e | e <;> rw [e]
      · exact .lit
      · exact ho
    · simp only [depL, It.dep]; omega
    · simp only [mxL, It.mx]; omega
theorem p_grp {w : Str} {k : Nat} {gv : V} {D S : Nat} (hw : w ∈ (["all", "any"] : List Str)) (hg : GrP xs B 3 D S gv H) (hσ : σ[k]? = some (some gv)) : EvP (tTup (tCons (tC (.str w)) (tCons (tVar k) tNil))) σ H (ItP xs B (D + 1) (S + 1)) := by
  obtain ⟨b, ys, l, rfl, hb, hk, hok, hd, hs, h3⟩ := hg
  refine evp_imp (evp_fix (eva_c (eva_v hσ eva_nil)) (Nat.le_of_ble_eq_true rfl)) fun x H' s ⟨p, e, h⟩ => ⟨.grp w l, true, ?_, .grp hw (by omega) hok, by rw [It.dep]; omega, by rw [It.mx]; omega⟩
  have hk' := hk.mono (Tp.same s)
  rw [e]
  exact .grp h (s _ _ hb) hk'.1 hk'.2
theorem itp_le {D S S' : Nat} {x : V} (h : ItP xs B D S x H) (hs : S ≤ S') : ItP xs B D S' x H := by
  obtain ⟨i, b, a, c, d, e⟩ := h
  exact ⟨i, b, a, c, d, Nat.le_trans e hs⟩
/-- the two orders of an item and its side -/
def BothP (v sv : V) : V → Hp → Prop := fun x H => ∃ p ys, x = .ref p ∧ H p = some (.tup ys) ∧ (ys = [v, sv] ∨ ys = [sv, v])
theorem both_mo : Mo (BothP v sv) := fun _ _ _ s ⟨p, ys, e, h, r⟩ => ⟨p, ys, e, s _ _ h, r⟩
theorem p_both (hv : σ[0]? = some (some v)) (hs : σ[1]? = some (some sv)) : EvP (tLst (tCons (tTup (tCons (tVar 0) (tCons (tVar 1) tNil))) (tCons (tTup (tCons (tVar 1) (tCons (tVar 0) tNil))) tNil))) σ H (fun v' H' => ∃ p ys, v' = .ref p ∧ H' p = some (.lst ys) ∧ All 2 (BothP v sv) ys H' ∧ H p = none) :=
  evp_lst (eva_all both_mo (evp_imp (evp_fix (eva_v hv (eva_v hs eva_nil)) (Nat.le_of_ble_eq_true rfl)) fun x H' _ ⟨p, e, h⟩ => ⟨p, _, e, h, .inl rfl⟩)
    (eva_all both_mo (evp_imp (evp_fix (eva_v hs (eva_v hv eva_nil)) (Nat.le_of_ble_eq_true rfl)) fun x H' _ ⟨p, e, h⟩ => ⟨p, _, e, h, .inr rfl⟩) eva_all0)) (all_mo both_mo) fun vs H' h => by rw [h.1]; exact (Nat.le_of_ble_eq_true rfl)
end
section
variable {P : Program} {w : World} {K : PySem.W.Frag} {mg : Str → Option Value} {base : Heap}
/-! ### _law_around -/
def spAround : Sp := fun vs H Q _ => ∃ (v sv : V) (i si : It) (xs : List Str) (B : Nat) (b : Bool) (m t : Int), vs = [v, sv, .int m, .int t] ∧ ItemIn H i v ∧ Okx xs B b i ∧ ItemIn H si sv ∧ Okx xs B false si ∧ si.dep = 1 ∧ si.mx = 1 ∧ 100 ≤ B ∧ -1000 ≤ m ∧ m ≤ 1000 ∧
  ∀ v' i' b' H', Same H H' → ItemIn H' i' v' → Okx xs B b' i' → i'.dep = i.dep + m.toNat → i'.mx ≤ i.mx + 5 * m.toNat → Q v' H'
end
end NL

namespace NL
open PySem PySem.Spec PyProof.Rows L2
section
variable {P : Program} {w : World} {K : PySem.W.Frag} {mg : Str → Option Value} {base : Heap}
/-! ### _law_many -/
def spMany (K : PySem.W.Frag) (B : Nat) : Sp := fun vs H Q _ => ∃ (d n : Addr) (xs : List Str) (c : Int), vs = [.ref d, .ref n, .int c] ∧ Dr H d ∧ Keep K d H n (xs.map V.str) ∧ c.natAbs ≤ B ∧
  ∀ v i H', Go d H H' → ItemIn H' i v → Okx xs B true i → i.dep ≤ 3 → i.sz ≤ 100 → Q v H'
end
end NL

namespace NL
open PySem PySem.Spec PyProof.Rows L2
abbrev five : List Str := ["add", "sub", "mul", "min", "max"]
theorem five_ne : ∀ w ∈ five, ∀ z ∈ (["number", "name", "if", "abs", "div", "mod"] : List Str), decide (V.str w = V.str z) = false := by decide +kernel
theorem no5 {w z : Str} (h : w ∈ five) (hz : z ∈ (["number", "name", "if", "abs", "div", "mod"] : List Str)) : decide (V.str w = V.str z) = false := five_ne w h z hz
theorem mul_ok {x y : Int} {m n : Nat} (hx : Builtin.Int.intBits x ≤ m) (hy : Builtin.Int.intBits y ≤ n) (h : m + n ≤ 134217728) : CMulX x y := by
  show (Builtin.Int.intBits x : Int) + (Builtin.Int.intBits y : Int) ≤ 134217728
  have h1 : Builtin.Int.intBits x ≤ m := hx
  have h2 : Builtin.Int.intBits y ≤ n := hy
  omega
theorem boolV {Q : VK} {b b' : Bool} {H : Hp} (h : b = b') (q : Q (.bl b') H) : Q (.bl b) H := by rw [h]; exact q
theorem strE {a b : Str} : decide (V.str a = V.str b) = decide (a = b) := decide_eq_decide.mpr ⟨V.str.inj, fun h => by rw [h]⟩
section
variable {P : Program} {w : World} {K : PySem.W.Frag} {mg : Str → Option Value} {base : Heap}
/-! ### _value_of_two -/
def spTwo : Sp := fun vs H Q _ => ∃ (w : Str) (x y : Int), vs = [.str w, .int x, .int y] ∧ w ∈ five ∧ CMulX x y ∧ Q (.int (opv w x y)) H
theorem ok_value_of_two (T : Txt K mg) : FnOk P w K mg base CX0 1 T.a_value_of_two T.d_value_of_two P_value_of_two spTwo := by
  refine T.F_value_of_two.ok sc_value_of_two (fun vs H Q E h => ?_) (fun cdv A outer s H vs Q E hr h => ?_)
  · obtain ⟨w, x, y, rfl, _⟩ := h
    rfl
  obtain ⟨w, x, y, rfl, hw, hc, q⟩ := h
  refine ⟨_, (pss_cons (ps_if (pt_cmpR op_eq (pv 0) pe_str (nomark _))
    (pss_one (ps_ret (pe_op op_add (pv 1) (pv 2))))
    pss_nil)
    (pss_cons (ps_if (pt_cmpR op_eq (pv 0) pe_str (nomark _))
    (pss_one (ps_ret (pe_op op_sub (pv 1) (pv 2))))
    pss_nil)
    (pss_cons (ps_if (pt_cmpR op_eq (pv 0) pe_str (nomark _))
    (pss_one (ps_ret (pe_op op_mulX (pv 1) (pv 2))))
    pss_nil)
    (pss_cons (ps_if (pt_cmpR op_eq (pv 0) pe_str (nomark _))
    (pss_one (ps_ret (pe_callB (call_min2 rfl) (by rfl) T.z_min (by decide +kernel) (pa_cons (pv 1) (pa_cons (pv 2) pa_nil)))))
    pss_nil)
    (pss_one (ps_ret (pe_callB (call_max2 rfl) (by rfl) T.z_max (by decide +kernel) (pa_cons (pv 1) (pa_cons (pv 2) pa_nil))))))))), ?_⟩
  simp only [List.mem_cons, List.not_mem_nil, or_false] at hw
  refine ⟨_, rfl, rfl, _, rfl, ?_⟩
  rcases hw with rfl | rfl | rfl | rfl | rfl
  · exact ifT (by first | decide +kernel | (rw [strE]; exact decide_eq_true rfl) | (rw [strE]; refine decide_eq_false ?_; simp only [It.word]; decide +kernel)) ⟨_, rfl, _, rfl, _, _, rfl, rfl, q⟩
  · refine ifF (by first | decide +kernel | (rw [strE]; exact decide_eq_true rfl) | (rw [strE]; refine decide_eq_false ?_; simp only [It.word]; decide +kernel)) ⟨_, rfl, rfl, _, rfl, ?_⟩
    exact ifT (by first | decide +kernel | (rw [strE]; exact decide_eq_true rfl) | (rw [strE]; refine decide_eq_false ?_; simp only [It.word]; decide +kernel)) ⟨_, rfl, _, rfl, _, _, rfl, rfl, q⟩
  · refine ifF (by first | decide +kernel | (rw [strE]; exact decide_eq_true rfl) | (rw [strE]; refine decide_eq_false ?_; simp only [It.word]; decide +kernel)) ⟨_, rfl, rfl, _, rfl, ?_⟩
    refine ifF (by first | decide +kernel | (rw [strE]; exact decide_eq_true rfl) | (rw [strE]; refine decide_eq_false ?_; simp only [It.word]; decide +kernel)) ⟨_, rfl, rfl, _, rfl, ?_⟩
    exact ifT (by first | decide +kernel | (rw [strE]; exact decide_eq_true rfl) | (rw [strE]; refine decide_eq_false ?_; simp only [It.word]; decide +kernel)) ⟨_, rfl, _, rfl, _, _, rfl, rfl, hc, q⟩
  · refine ifF (by first | decide +kernel | (rw [strE]; exact decide_eq_true rfl) | (rw [strE]; refine decide_eq_false ?_; simp only [It.word]; decide +kernel)) ⟨_, rfl, rfl, _, rfl, ?_⟩
    refine ifF (by first | decide +kernel | (rw [strE]; exact decide_eq_true rfl) | (rw [strE]; refine decide_eq_false ?_; simp only [It.word]; decide +kernel)) ⟨_, rfl, rfl, _, rfl, ?_⟩
    refine ifF (by first | decide +kernel | (rw [strE]; exact decide_eq_true rfl) | (rw [strE]; refine decide_eq_false ?_; simp only [It.word]; decide +kernel)) ⟨_, rfl, rfl, _, rfl, ?_⟩
    exact ifT (by first | decide +kernel | (rw [strE]; exact decide_eq_true rfl) | (rw [strE]; refine decide_eq_false ?_; simp only [It.word]; decide +kernel)) ⟨_, rfl, _, rfl, _, _, rfl, q⟩
  · refine ifF (by first | decide +kernel | (rw [strE]; exact decide_eq_true rfl) | (rw [strE]; refine decide_eq_false ?_; simp only [It.word]; decide +kernel)) ⟨_, rfl, rfl, _, rfl, ?_⟩
    refine ifF (by first | decide +kernel | (rw [strE]; exact decide_eq_true rfl) | (rw [strE]; refine decide_eq_false ?_; simp only [It.word]; decide +kernel)) ⟨_, rfl, rfl, _, rfl, ?_⟩
    refine ifF (by first | decide +kernel | (rw [strE]; exact decide_eq_true rfl) | (rw [strE]; refine decide_eq_false ?_; simp only [It.word]; decide +kernel)) ⟨_, rfl, rfl, _, rfl, ?_⟩
    refine ifF (by first | decide +kernel | (rw [strE]; exact decide_eq_true rfl) | (rw [strE]; refine decide_eq_false ?_; simp only [It.word]; decide +kernel)) ⟨_, rfl, _, rfl, _, _, rfl, q⟩
/-! ### value_of, holds -/
structure Ev (H : Hp) (xs : List Str) (B k : Nat) (ρ : Str → Int) (dv : Addr) (n : Nat) (b : Bool) (i : It) (v : V) : Prop where
  it : ItemIn H i v
  ok : Okx xs B b i
  dp : i.dep ≤ n
  bs : Bs xs B k ρ
  sz : k * (i.mx + 1) ≤ 134217728
  en : EnvIn H dv ρ xs
theorem Ev.same {H H' : Hp} {xs : List Str} {B k : Nat} {ρ : Str → Int} {dv : Addr} {n : Nat} {b : Bool} {i : It} {v : V} (h : Ev H xs B k ρ dv n b i v) (s : Same H H') : Ev H' xs B k ρ dv n b i v := ⟨h.it.mono (Tp.same s), h.ok, h.dp, h.bs, h.sz, h.en.same s⟩
theorem Ev.kid {H : Hp} {xs : List Str} {B k : Nat} {ρ : Str → Int} {dv : Addr} {n : Nat} {b b' : Bool} {i j : It} {v x : V} (h : Ev H xs B k ρ dv (n + 1) b i v) (hj : j ∈ i.kids) (hx : ItemIn H j x) (ho : Okx xs B b' j) : Ev H xs B k ρ dv n b' j x := by
  have h1 := depL_in hj
  have h2 := @kids_dep i
  have h3 := h.dp
  have h4 := mx_kid hj
  exact ⟨hx, ho, by omega, h.bs, Nat.le_trans (Nat.mul_le_mul_left k (by omega)) h.sz, h.en⟩
theorem Ev.bits {H : Hp} {xs : List Str} {B k : Nat} {ρ : Str → Int} {dv : Addr} {n : Nat} {i : It} {v : V} (h : Ev H xs B k ρ dv n false i v) : Builtin.Int.intBits (i.ev ρ) ≤ k * i.mx := (ev_bits h.bs h.ok rfl).1
def spEv (n : Nat) : Sp := fun vs H Q _ => ∃ (v : V) (dv : Addr) (i : It) (xs : List Str) (B k : Nat) (ρ : Str → Int), vs = [v, .ref dv] ∧ Ev H xs B k ρ dv n false i v ∧ ∀ H', Same H H' → Q (.int (i.ev ρ)) H'
def spTr (n : Nat) : Sp := fun vs H Q _ => ∃ (v : V) (dv : Addr) (i : It) (xs : List Str) (B k : Nat) (ρ : Str → Int), vs = [v, .ref dv] ∧ Ev H xs B k ρ dv n true i v ∧ ∀ H', Same H H' → Q (.bl (i.tr ρ)) H'
theorem no_ev {fa : Addr} {fd : FuncData} {ps : List Str} {c : Nat} : FnOk P w K mg base CX0 c fa fd ps (spEv 0) := by
  have no : ∀ vs H Q E, ¬ spEv 0 vs H Q E := fun vs H Q E ⟨v, dv, i, xs, B, k, ρ, _, h, _⟩ => by
    have := dep_pos i
    have := h.dp
    omega
  exact ⟨fun vs H Q E h => absurd h (no vs H Q E), fun A outer s H args us vs Q E _ _ _ _ h => absurd h (no vs H Q E)⟩
theorem no_tr {fa : Addr} {fd : FuncData} {ps : List Str} {c : Nat} : FnOk P w K mg base CX0 c fa fd ps (spTr 0) := by
  have no : ∀ vs H Q E, ¬ spTr 0 vs H Q E := fun vs H Q E ⟨v, dv, i, xs, B, k, ρ, _, h, _⟩ => by
    have := dep_pos i
    have := h.dp
    omega
  exact ⟨fun vs H Q E h => absurd h (no vs H Q E), fun A outer s H args us vs Q E _ _ _ _ h => absurd h (no vs H Q E)⟩
/-- the truths of a group's parts, listed -/
theorem dgetE {H : Hp} {dv : Addr} {ρ : Str → Int} {xs : List Str} {x : Str} (h : EnvIn H dv ρ xs) (hx : x ∈ xs) : DGet H dv (.str x) (some (.int (ρ x))) := by
  obtain ⟨kvs, e, g⟩ := h
  rw [← g x hx]
  exact DGet.k (k := Sum.inr x) e
theorem intE {Q : VK} {a b : Int} {H : Hp} (h : a = b) (q : Q (.int b) H) : Q (.int a) H := by rw [h]; exact q
theorem rd_value (hN : base.NoSeer) (hp : P.given.tree = none) (T : Txt K mg) {n c : Nat} (hc : 33 ≤ c) (Gvalue_of : FnOk P w K mg base CX0 c T.avalue_of T.dvalue_of Pvalue_of (spEv n)) (Gholds : FnOk P w K mg base CX0 c T.aholds T.dholds Pholds (spTr n)) :
    FnOk P w K mg base CX0 (c + 1) T.avalue_of T.dvalue_of Pvalue_of (spEv (n + 1)) := by
  have G_value_of_two := ok_value_of_two (P := P) (w := w) (base := base) T
  refine T.Fvalue_of.ok scvalue_of (fun vs H Q E h => ?_) (fun cdv A outer s H vs Q E hr h => ?_)
  · obtain ⟨v, dv, i, xs, B, k, ρ, rfl, _⟩ := h
    rfl
  obtain ⟨v, dv, i, xs, B, k, ρ, rfl, hv, q⟩ := h
  refine ⟨_, (pss_cons (ps_set (i := 2) scvalue_of.nd rfl (Or.inl rfl) (pe_ix ix_tup (pv 0) pe_int (fun _ _ => rfl)))
    (pss_cons (ps_if (pt_cmpR op_eq (pv 2) pe_str (nomark _))
    (pss_one (ps_ret (pe_ix ix_tup (pv 0) pe_int (fun _ _ => rfl))))
    pss_nil)
    (pss_cons (ps_if (pt_cmpR op_eq (pv 2) pe_str (nomark _))
    (pss_one (ps_ret (pe_dget (hu_of hr) (pv 1) (pe_ix ix_tup (pv 0) pe_int (fun _ _ => rfl)) (fun _ _ => rfl))))
    pss_nil)
    (pss_cons (ps_if (pt_cmpR op_eq (pv 2) pe_str (nomark _))
    (pss_cons (ps_set (i := 3) scvalue_of.nd rfl (Or.inl rfl) (pe_ifExp (pt_val (pe_call Gholds (hr.mono (by omega)) (by rfl) T.mholds T.Fholds.kp T.bholds .nil pass0 (pa_cons (pe_ix ix_tup (pv 0) pe_int (fun _ _ => rfl)) (pa_cons (pv 1) pa_nil)))) (pe_ix ix_tup (pv 0) pe_int (fun _ _ => rfl)) (pe_ix ix_tup (pv 0) pe_int (fun _ _ => rfl))))
    (pss_one (ps_ret (pe_call Gvalue_of (hr.mono (by omega)) (by rfl) T.mvalue_of T.Fvalue_of.kp T.bvalue_of .nil pass0 (pa_cons (pv 3) (pa_cons (pv 1) pa_nil))))))
    pss_nil)
    (pss_cons (ps_if (pt_cmpR op_eq (pv 2) pe_str (nomark _))
    (pss_one (ps_ret (pe_callB (call_abs) (by rfl) T.z_abs (by decide +kernel) (pa_cons (pe_call Gvalue_of (hr.mono (by omega)) (by rfl) T.mvalue_of T.Fvalue_of.kp T.bvalue_of .nil pass0 (pa_cons (pe_ix ix_tup (pv 0) pe_int (fun _ _ => rfl)) (pa_cons (pv 1) pa_nil))) pa_nil))))
    pss_nil)
    (pss_cons (ps_if (pt_cmpR op_eq (pv 2) pe_str (nomark _))
    (pss_one (ps_ret (pe_op (op_fdivN hN hp hr (by omega) rfl (by rfl) (by rfl)) (pe_call Gvalue_of (hr.mono (by omega)) (by rfl) T.mvalue_of T.Fvalue_of.kp T.bvalue_of .nil pass0 (pa_cons (pe_ix ix_tup (pv 0) pe_int (fun _ _ => rfl)) (pa_cons (pv 1) pa_nil))) (pe_ix ix_tup (pv 0) pe_int (fun _ _ => rfl)))))
    pss_nil)
    (pss_cons (ps_if (pt_cmpR op_eq (pv 2) pe_str (nomark _))
    (pss_one (ps_ret (pe_op op_mod (pe_call Gvalue_of (hr.mono (by omega)) (by rfl) T.mvalue_of T.Fvalue_of.kp T.bvalue_of .nil pass0 (pa_cons (pe_ix ix_tup (pv 0) pe_int (fun _ _ => rfl)) (pa_cons (pv 1) pa_nil))) (pe_ix ix_tup (pv 0) pe_int (fun _ _ => rfl)))))
    pss_nil)
    (pss_one (ps_ret (pe_call G_value_of_two (hr.mono (by omega)) (by rfl) T.m_value_of_two T.F_value_of_two.kp T.b_value_of_two .nil pass0 (pa_cons (pv 2) (pa_cons (pe_call Gvalue_of (hr.mono (by omega)) (by rfl) T.mvalue_of T.Fvalue_of.kp T.bvalue_of .nil pass0 (pa_cons (pe_ix ix_tup (pv 0) pe_int (fun _ _ => rfl)) (pa_cons (pv 1) pa_nil))) (pa_cons (pe_call Gvalue_of (hr.mono (by omega)) (by rfl) T.mvalue_of T.Fvalue_of.kp T.bvalue_of .nil pass0 (pa_cons (pe_ix ix_tup (pv 0) pe_int (fun _ _ => rfl)) (pa_cons (pv 1) pa_nil))) pa_nil))))))))))))), ?_⟩
  obtain ⟨a, rfl⟩ := hv.it.ref
  obtain ⟨r, ha⟩ := hv.it.head
  refine ⟨_, rfl, a, _, 0, _, rfl, rfl, sqt ha, atI0, ?_⟩
  refine ⟨_, rfl, rfl, _, rfl, ?_⟩
  have hit := hv.it
  have hok := hv.ok
  cases hok with
  | num hb =>
    cases hit with
    | num e =>
      refine ifT (by first | decide +kernel | (rw [strE]; exact decide_eq_true rfl) | (rw [strE]; refine decide_eq_false ?_; simp only [It.word]; decide +kernel)) ⟨_, rfl, a, _, 1, _, rfl, rfl, sqt e, atI1, ?_⟩
      exact intE (by rw [It.ev]) (q H (Same.refl H))
  | name hx =>
    cases hit with
    | name e =>
      refine ifF (by first | decide +kernel | (rw [strE]; exact decide_eq_true rfl) | (rw [strE]; refine decide_eq_false ?_; simp only [It.word]; decide +kernel)) ⟨_, rfl, rfl, _, rfl, ?_⟩
      refine ifT (by first | decide +kernel | (rw [strE]; exact decide_eq_true rfl) | (rw [strE]; refine decide_eq_false ?_; simp only [It.word]; decide +kernel)) ⟨_, rfl, _, rfl, a, _, 1, _, rfl, rfl, sqt e, atI1, dv, _, rfl, dgetE hv.en hx, ?_⟩
      exact intE (by rw [It.ev]) (q H (Same.refl H))
  | tri hc2 h1 h2 =>
    cases hit with
    | tri e g1 g2 g3 =>
      rename_i ic ia ib vc va vb
      refine ifF (by first | decide +kernel | (rw [strE]; exact decide_eq_true rfl) | (rw [strE]; refine decide_eq_false ?_; simp only [It.word]; decide +kernel)) ⟨_, rfl, rfl, _, rfl, ?_⟩
      refine ifF (by first | decide +kernel | (rw [strE]; exact decide_eq_true rfl) | (rw [strE]; refine decide_eq_false ?_; simp only [It.word]; decide +kernel)) ⟨_, rfl, rfl, _, rfl, ?_⟩
      refine ifT (by first | decide +kernel | (rw [strE]; exact decide_eq_true rfl) | (rw [strE]; refine decide_eq_false ?_; simp only [It.word]; decide +kernel)) ⟨_, rfl, a, _, 1, _, rfl, rfl, sqt e, atI1, _, rfl, ?_⟩
      refine ⟨_, dv, ic, xs, B, k, ρ, rfl, hv.kid (by simp [It.kids]) g1 hc2, fun H1 s1 => ⟨_, rfl, ?_⟩⟩
      have e1 := s1 _ _ e
      have hv1 := hv.same s1
      refine ite2 (fun c => ?_) (fun c => ?_)
      · refine ⟨_, rfl, a, _, 2, _, rfl, rfl, sqt e1, atI2, _, rfl, _, rfl, _, dv, ia, xs, B, k, ρ, rfl, hv1.kid (by simp [It.kids]) (g2.mono (Tp.same s1)) h1, fun H2 s2 => ?_⟩
        exact intE (by rw [It.ev, if_pos c]) (q H2 (s1.trans s2))
      · refine ⟨_, rfl, a, _, 3, _, rfl, rfl, sqt e1, atI_nat (j := 3) rfl, _, rfl, _, rfl, _, dv, ib, xs, B, k, ρ, rfl, hv1.kid (by simp [It.kids]) (g3.mono (Tp.same s1)) h2, fun H2 s2 => ?_⟩
        exact intE (by rw [It.ev, if_neg c]) (q H2 (s1.trans s2))
  | abs h1 =>
    cases hit with
    | un e g1 =>
      rename_i ia va
      refine ifF (by first | decide +kernel | (rw [strE]; exact decide_eq_true rfl) | (rw [strE]; refine decide_eq_false ?_; simp only [It.word]; decide +kernel)) ⟨_, rfl, rfl, _, rfl, ?_⟩
      refine ifF (by first | decide +kernel | (rw [strE]; exact decide_eq_true rfl) | (rw [strE]; refine decide_eq_false ?_; simp only [It.word]; decide +kernel)) ⟨_, rfl, rfl, _, rfl, ?_⟩
      refine ifF (by first | decide +kernel | (rw [strE]; exact decide_eq_true rfl) | (rw [strE]; refine decide_eq_false ?_; simp only [It.word]; decide +kernel)) ⟨_, rfl, rfl, _, rfl, ?_⟩
      refine ifT (by first | decide +kernel | (rw [strE]; exact decide_eq_true rfl) | (rw [strE]; refine decide_eq_false ?_; simp only [It.word]; decide +kernel)) ⟨_, rfl, a, _, 1, _, rfl, rfl, sqt e, atI1, _, rfl, ?_⟩
      refine ⟨_, dv, ia, xs, B, k, ρ, rfl, hv.kid (by simp [It.kids]) g1 h1, fun H1 s1 => ⟨_, rfl, ?_⟩⟩
      exact intE (by rw [It.ev]) (q H1 s1)
  | dm hw h1 h2 h3 =>
    cases hit with
    | dm e g1 =>
      rename_i ww ia m va
      simp only [List.mem_cons, List.not_mem_nil, or_false] at hw
      have hk := hv.kid (by simp [It.kids]) g1 h1
      rcases hw with rfl | rfl
      · refine ifF (by first | decide +kernel | (rw [strE]; exact decide_eq_true rfl) | (rw [strE]; refine decide_eq_false ?_; simp only [It.word]; decide +kernel)) ⟨_, rfl, rfl, _, rfl, ?_⟩
        refine ifF (by first | decide +kernel | (rw [strE]; exact decide_eq_true rfl) | (rw [strE]; refine decide_eq_false ?_; simp only [It.word]; decide +kernel)) ⟨_, rfl, rfl, _, rfl, ?_⟩
        refine ifF (by first | decide +kernel | (rw [strE]; exact decide_eq_true rfl) | (rw [strE]; refine decide_eq_false ?_; simp only [It.word]; decide +kernel)) ⟨_, rfl, rfl, _, rfl, ?_⟩
        refine ifF (by first | decide +kernel | (rw [strE]; exact decide_eq_true rfl) | (rw [strE]; refine decide_eq_false ?_; simp only [It.word]; decide +kernel)) ⟨_, rfl, rfl, _, rfl, ?_⟩
        refine ifT (by first | decide +kernel | (rw [strE]; exact decide_eq_true rfl) | (rw [strE]; refine decide_eq_false ?_; simp only [It.word]; decide +kernel)) ⟨_, rfl, a, _, 1, _, rfl, rfl, sqt e, atI1, _, rfl, _, dv, ia, xs, B, k, ρ, rfl, hk, fun H1 s1 => ?_⟩
        refine ⟨_, rfl, a, _, 2, _, rfl, rfl, sqt (s1 _ _ e), atI2, _, _, rfl, rfl, (by show 0 < m; omega), ?_⟩
        exact intE (by rw [It.ev, if_pos rfl]) (q H1 s1)
      · refine ifF (by first | decide +kernel | (rw [strE]; exact decide_eq_true rfl) | (rw [strE]; refine decide_eq_false ?_; simp only [It.word]; decide +kernel)) ⟨_, rfl, rfl, _, rfl, ?_⟩
        refine ifF (by first | decide +kernel | (rw [strE]; exact decide_eq_true rfl) | (rw [strE]; refine decide_eq_false ?_; simp only [It.word]; decide +kernel)) ⟨_, rfl, rfl, _, rfl, ?_⟩
        refine ifF (by first | decide +kernel | (rw [strE]; exact decide_eq_true rfl) | (rw [strE]; refine decide_eq_false ?_; simp only [It.word]; decide +kernel)) ⟨_, rfl, rfl, _, rfl, ?_⟩
        refine ifF (by first | decide +kernel | (rw [strE]; exact decide_eq_true rfl) | (rw [strE]; refine decide_eq_false ?_; simp only [It.word]; decide +kernel)) ⟨_, rfl, rfl, _, rfl, ?_⟩
        refine ifF (by first | decide +kernel | (rw [strE]; exact decide_eq_true rfl) | (rw [strE]; refine decide_eq_false ?_; simp only [It.word]; decide +kernel)) ⟨_, rfl, rfl, _, rfl, ?_⟩
        refine ifT (by first | decide +kernel | (rw [strE]; exact decide_eq_true rfl) | (rw [strE]; refine decide_eq_false ?_; simp only [It.word]; decide +kernel)) ⟨_, rfl, a, _, 1, _, rfl, rfl, sqt e, atI1, _, rfl, _, dv, ia, xs, B, k, ρ, rfl, hk, fun H1 s1 => ?_⟩
        refine ⟨_, rfl, a, _, 2, _, rfl, rfl, sqt (s1 _ _ e), atI2, _, _, rfl, rfl, (by show 0 < m; omega), ?_⟩
        exact intE (by rw [It.ev, if_neg (by decide +kernel)]) (q H1 s1)
  | bin hw h1 h2 =>
    cases hit with
    | bin e g1 g2 =>
      rename_i ww ia ib va vb
      have hk1 := hv.kid (by simp [It.kids]) g1 h1
      refine ifF (no5 hw (by decide +kernel)) ⟨_, rfl, rfl, _, rfl, ?_⟩
      refine ifF (no5 hw (by decide +kernel)) ⟨_, rfl, rfl, _, rfl, ?_⟩
      refine ifF (no5 hw (by decide +kernel)) ⟨_, rfl, rfl, _, rfl, ?_⟩
      refine ifF (no5 hw (by decide +kernel)) ⟨_, rfl, rfl, _, rfl, ?_⟩
      refine ifF (no5 hw (by decide +kernel)) ⟨_, rfl, rfl, _, rfl, ?_⟩
      refine ifF (no5 hw (by decide +kernel)) ⟨_, rfl, _, rfl, a, _, 1, _, rfl, rfl, sqt e, atI1, _, rfl, _, dv, ia, xs, B, k, ρ, rfl, hk1, fun H1 s1 => ?_⟩
      have hv1 := hv.same s1
      have hk2 := hv1.kid (by simp [It.kids]) (g2.mono (Tp.same s1)) h2
      refine ⟨_, rfl, a, _, 2, _, rfl, rfl, sqt (s1 _ _ e), atI2, _, rfl, _, dv, ib, xs, B, k, ρ, rfl, hk2, fun H2 s2 => ?_⟩
      have hsz := hv.sz
      rw [It.mx, Nat.mul_add, Nat.mul_add] at hsz
      refine ⟨ww, _, _, rfl, hw, mul_ok hk1.bits hk2.bits (by omega), ?_⟩
      exact intE (by rw [It.ev]) (q H2 (s1.trans s2))
theorem truths {l : List It} {ρ : Str → Int} {j : Nat} {u : It} (h : l[j]? = some u) : ((l.take j).map (It.tr ρ)).map V.bl ++ [V.bl (u.tr ρ)] = ((l.take (j + 1)).map (It.tr ρ)).map V.bl := by
  rw [List.take_add_one, h, List.map_append, List.map_append]
  rfl
theorem rd_holds (T : Txt K mg) {n c : Nat} (Gvalue_of : FnOk P w K mg base CX0 c T.avalue_of T.dvalue_of Pvalue_of (spEv n)) (Gholds : FnOk P w K mg base CX0 c T.aholds T.dholds Pholds (spTr n)) :
    FnOk P w K mg base CX0 (c + 1) T.aholds T.dholds Pholds (spTr (n + 1)) := by
  refine T.Fholds.ok scholds (fun vs H Q E h => ?_) (fun cdv A outer s H vs Q E hr h => ?_)
  · obtain ⟨v, dv, i, xs, B, k, ρ, rfl, _⟩ := h
    rfl
  obtain ⟨v, dv, i, xs, B, k, ρ, rfl, hv, q⟩ := h
  refine ⟨_, (pss_cons (ps_set (i := 2) scholds.nd rfl (Or.inl rfl) (pe_ix ix_tup (pv 0) pe_int (fun _ _ => rfl)))
    (pss_cons (ps_if (pt_cmpR op_eq (pv 2) pe_str (nomark _))
    (pss_one (ps_ret pe_bl))
    pss_nil)
    (pss_cons (ps_if (pt_cmpR op_eq (pv 2) pe_str (nomark _))
    (pss_one (ps_ret pe_bl))
    pss_nil)
    (pss_cons (ps_if (pt_cmpR op_eq (pv 2) pe_str (nomark _))
    (pss_one (ps_ret (pe_cmpR op_lt (pe_call Gvalue_of (hr.mono (by omega)) (by rfl) T.mvalue_of T.Fvalue_of.kp T.bvalue_of .nil pass0 (pa_cons (pe_ix ix_tup (pv 0) pe_int (fun _ _ => rfl)) (pa_cons (pv 1) pa_nil))) (pe_call Gvalue_of (hr.mono (by omega)) (by rfl) T.mvalue_of T.Fvalue_of.kp T.bvalue_of .nil pass0 (pa_cons (pe_ix ix_tup (pv 0) pe_int (fun _ _ => rfl)) (pa_cons (pv 1) pa_nil))) (nomark _))))
    pss_nil)
    (pss_cons (ps_if (pt_cmpR op_eq (pv 2) pe_str (nomark _))
    (pss_one (ps_ret (pe_cmpR op_eq (pe_call Gvalue_of (hr.mono (by omega)) (by rfl) T.mvalue_of T.Fvalue_of.kp T.bvalue_of .nil pass0 (pa_cons (pe_ix ix_tup (pv 0) pe_int (fun _ _ => rfl)) (pa_cons (pv 1) pa_nil))) (pe_call Gvalue_of (hr.mono (by omega)) (by rfl) T.mvalue_of T.Fvalue_of.kp T.bvalue_of .nil pass0 (pa_cons (pe_ix ix_tup (pv 0) pe_int (fun _ _ => rfl)) (pa_cons (pv 1) pa_nil))) (nomark _))))
    pss_nil)
    (pss_cons (ps_if (pt_cmpR op_eq (pv 2) pe_str (nomark _))
    (pss_one (ps_ret (pe_not (pe_call Gholds (hr.mono (by omega)) (by rfl) T.mholds T.Fholds.kp T.bholds .nil pass0 (pa_cons (pe_ix ix_tup (pv 0) pe_int (fun _ _ => rfl)) (pa_cons (pv 1) pa_nil))))))
    pss_nil)
    (pss_cons (ps_if (pt_cmpR op_eq (pv 2) pe_str (nomark _))
    (pss_one (ps_ret (pe_callB (cr_all rfl) (by rfl) T.z_all (by decide +kernel) (pa_cons (pe_lc (own := [("part", 3)]) (g := (gName 3)) (tt := tYes) rfl scholds.nd (pi_tup (pe_ix ix_tup (pv 0) pe_int (fun _ _ => rfl))) (blkOk_by (N := Nholds) (sc := defScope sholds) (by decide +kernel)) (fun _ _ _ _ _ => (pg_name (i := 3) scholds.nd rfl (Or.inl rfl))) (fun _ _ _ _ _ => pts_nil) (fun _ _ _ _ _ => (pe_call Gholds (hr.mono (by omega)) (by rfl) T.mholds T.Fholds.kp T.bholds .nil pass0 (pa_cons (pv 3) (pa_cons (pv 1) pa_nil))))) pa_nil))))
    pss_nil)
    (pss_one (ps_ret (pe_callB (cr_any rfl) (by rfl) T.z_any (by decide +kernel) (pa_cons (pe_lc (own := [("part", 3)]) (g := (gName 3)) (tt := tYes) rfl scholds.nd (pi_tup (pe_ix ix_tup (pv 0) pe_int (fun _ _ => rfl))) (blkOk_by (N := Nholds) (sc := defScope sholds) (by decide +kernel)) (fun _ _ _ _ _ => (pg_name (i := 3) scholds.nd rfl (Or.inl rfl))) (fun _ _ _ _ _ => pts_nil) (fun _ _ _ _ _ => (pe_call Gholds (hr.mono (by omega)) (by rfl) T.mholds T.Fholds.kp T.bholds .nil pass0 (pa_cons (pv 3) (pa_cons (pv 1) pa_nil))))) pa_nil))))))))))), ?_⟩
  obtain ⟨a, rfl⟩ := hv.it.ref
  obtain ⟨r, ha⟩ := hv.it.head
  refine ⟨_, rfl, a, _, 0, _, rfl, rfl, sqt ha, atI0, ?_⟩
  refine ⟨_, rfl, rfl, _, rfl, ?_⟩
  have hit := hv.it
  have hok := hv.ok
  cases hok with
  | lit =>
    rename_i b
    cases b with
    | true => exact ifT (by first | decide +kernel | (rw [strE]; exact decide_eq_true rfl) | (rw [strE]; refine decide_eq_false ?_; simp only [It.word]; decide +kernel)) (boolV (by rw [It.tr]) (q H (Same.refl H)))
    | false =>
      refine ifF (by first | decide +kernel | (rw [strE]; exact decide_eq_true rfl) | (rw [strE]; refine decide_eq_false ?_; simp only [It.word]; decide +kernel)) ⟨_, rfl, rfl, _, rfl, ?_⟩
      exact ifT (by first | decide +kernel | (rw [strE]; exact decide_eq_true rfl) | (rw [strE]; refine decide_eq_false ?_; simp only [It.word]; decide +kernel)) (boolV (by rw [It.tr]) (q H (Same.refl H)))
  | cmp hw h1 h2 =>
    cases hit with
    | bin e g1 g2 =>
      rename_i ww ia ib va vb
      simp only [List.mem_cons, List.not_mem_nil, or_false] at hw
      have hk1 := hv.kid (by simp [It.kids]) g1 h1
      rcases hw with rfl | rfl
      · refine ifF (by first | decide +kernel | (rw [strE]; exact decide_eq_true rfl) | (rw [strE]; refine decide_eq_false ?_; simp only [It.word]; decide +kernel)) ⟨_, rfl, rfl, _, rfl, ?_⟩
        refine ifF (by first | decide +kernel | (rw [strE]; exact decide_eq_true rfl) | (rw [strE]; refine decide_eq_false ?_; simp only [It.word]; decide +kernel)) ⟨_, rfl, rfl, _, rfl, ?_⟩
        refine ifT (by first | decide +kernel | (rw [strE]; exact decide_eq_true rfl) | (rw [strE]; refine decide_eq_false ?_; simp only [It.word]; decide +kernel)) ⟨_, rfl, a, _, 1, _, rfl, rfl, sqt e, atI1, _, rfl, _, dv, ia, xs, B, k, ρ, rfl, hk1, fun H1 s1 => ?_⟩
        have hk2 := (hv.same s1).kid (by simp [It.kids]) (g2.mono (Tp.same s1)) h2
        refine ⟨_, rfl, a, _, 2, _, rfl, rfl, sqt (s1 _ _ e), atI2, _, rfl, _, dv, ib, xs, B, k, ρ, rfl, hk2, fun H2 s2 => ⟨_, _, rfl, rfl, ?_⟩⟩
        exact boolV (by rw [It.tr, if_pos rfl]) (q H2 (s1.trans s2))
      · refine ifF (by first | decide +kernel | (rw [strE]; exact decide_eq_true rfl) | (rw [strE]; refine decide_eq_false ?_; simp only [It.word]; decide +kernel)) ⟨_, rfl, rfl, _, rfl, ?_⟩
        refine ifF (by first | decide +kernel | (rw [strE]; exact decide_eq_true rfl) | (rw [strE]; refine decide_eq_false ?_; simp only [It.word]; decide +kernel)) ⟨_, rfl, rfl, _, rfl, ?_⟩
        refine ifF (by first | decide +kernel | (rw [strE]; exact decide_eq_true rfl) | (rw [strE]; refine decide_eq_false ?_; simp only [It.word]; decide +kernel)) ⟨_, rfl, rfl, _, rfl, ?_⟩
        refine ifT (by first | decide +kernel | (rw [strE]; exact decide_eq_true rfl) | (rw [strE]; refine decide_eq_false ?_; simp only [It.word]; decide +kernel)) ⟨_, rfl, a, _, 1, _, rfl, rfl, sqt e, atI1, _, rfl, _, dv, ia, xs, B, k, ρ, rfl, hk1, fun H1 s1 => ?_⟩
        have hk2 := (hv.same s1).kid (by simp [It.kids]) (g2.mono (Tp.same s1)) h2
        refine ⟨_, rfl, a, _, 2, _, rfl, rfl, sqt (s1 _ _ e), atI2, _, rfl, _, dv, ib, xs, B, k, ρ, rfl, hk2, fun H2 s2 => ⟨rfl, ?_⟩⟩
        refine boolV ?_ (q H2 (s1.trans s2))
        rw [It.tr, if_neg (by decide +kernel)]
        exact decide_eq_decide.mpr ⟨V.int.inj, fun h => by rw [h]⟩
  | not h1 =>
    cases hit with
    | un e g1 =>
      rename_i ia va
      refine ifF (by first | decide +kernel | (rw [strE]; exact decide_eq_true rfl) | (rw [strE]; refine decide_eq_false ?_; simp only [It.word]; decide +kernel)) ⟨_, rfl, rfl, _, rfl, ?_⟩
      refine ifF (by first | decide +kernel | (rw [strE]; exact decide_eq_true rfl) | (rw [strE]; refine decide_eq_false ?_; simp only [It.word]; decide +kernel)) ⟨_, rfl, rfl, _, rfl, ?_⟩
      refine ifF (by first | decide +kernel | (rw [strE]; exact decide_eq_true rfl) | (rw [strE]; refine decide_eq_false ?_; simp only [It.word]; decide +kernel)) ⟨_, rfl, rfl, _, rfl, ?_⟩
      refine ifF (by first | decide +kernel | (rw [strE]; exact decide_eq_true rfl) | (rw [strE]; refine decide_eq_false ?_; simp only [It.word]; decide +kernel)) ⟨_, rfl, rfl, _, rfl, ?_⟩
      refine ifT (by first | decide +kernel | (rw [strE]; exact decide_eq_true rfl) | (rw [strE]; refine decide_eq_false ?_; simp only [It.word]; decide +kernel)) ⟨_, rfl, a, _, 1, _, rfl, rfl, sqt e, atI1, _, rfl, ?_⟩
      refine ⟨_, dv, ia, xs, B, k, ρ, rfl, hv.kid (by simp [It.kids]) g1 h1, fun H1 s1 => ⟨_, rfl, ?_⟩⟩
      exact boolV (by rw [It.tr]) (q H1 s1)
  | grp hw hl hall =>
    cases hit with
    | grp e e2 hlen hk =>
      rename_i ww l b ys
      have hkids : Kids H l ys := ⟨hlen, hk⟩
      simp only [List.mem_cons, List.not_mem_nil, or_false] at hw
      rcases hw with rfl | rfl
      · refine ifF (by first | decide +kernel | (rw [strE]; exact decide_eq_true rfl) | (rw [strE]; refine decide_eq_false ?_; simp only [It.word]; decide +kernel)) ⟨_, rfl, rfl, _, rfl, ?_⟩
        refine ifF (by first | decide +kernel | (rw [strE]; exact decide_eq_true rfl) | (rw [strE]; refine decide_eq_false ?_; simp only [It.word]; decide +kernel)) ⟨_, rfl, rfl, _, rfl, ?_⟩
        refine ifF (by first | decide +kernel | (rw [strE]; exact decide_eq_true rfl) | (rw [strE]; refine decide_eq_false ?_; simp only [It.word]; decide +kernel)) ⟨_, rfl, rfl, _, rfl, ?_⟩
        refine ifF (by first | decide +kernel | (rw [strE]; exact decide_eq_true rfl) | (rw [strE]; refine decide_eq_false ?_; simp only [It.word]; decide +kernel)) ⟨_, rfl, rfl, _, rfl, ?_⟩
        refine ifF (by first | decide +kernel | (rw [strE]; exact decide_eq_true rfl) | (rw [strE]; refine decide_eq_false ?_; simp only [It.word]; decide +kernel)) ⟨_, rfl, rfl, _, rfl, ?_⟩
        refine ifT (by first | decide +kernel | (rw [strE]; exact decide_eq_true rfl) | (rw [strE]; refine decide_eq_false ?_; simp only [It.word]; decide +kernel)) ⟨_, rfl, a, _, 1, _, rfl, rfl, sqt e, atI1, b, rfl, ⟨_, sqt e2⟩, fun D hD => ?_⟩
        refine lc_tup (K := K) (a := b) (xs := ys) (fun (j : Nat) (H' : Hp) => Same H H' ∧ H' D = some (.lst (((l.take j).map (It.tr ρ)).map V.bl))) ?_ ?_ ?_ ?_
        · exact ⟨same_new hD _, by rw [upd_same, List.take_zero] <;> rfl⟩
        · rintro j H' _ ⟨s3, _⟩
          exact sqt (s3 _ _ e2)
        · rintro j x H' hx ⟨s3, e3⟩
          obtain ⟨u, hu, hin, hmem⟩ := hkids.get hx
          refine ⟨rfl, yes_if ?_⟩
          refine ⟨_, rfl, _, rfl, _, dv, u, xs, B, k, ρ, rfl, (hv.same s3).kid hmem (hin.mono (Tp.same s3)) (hall u hmem), fun H4 s4 => ?_⟩
          refine ⟨_, s4 _ _ e3, ?_, same_put (s3.trans s4) hD, ?_⟩
          · rw [List.length_map, List.length_map, List.length_take]
            exact small1000 (by omega)
          · rw [upd_same, truths hu]
        · rintro H3 ⟨s3, e3⟩
          rw [hlen, List.take_length] at e3
          refine ⟨D, _, rfl, sqd e3, ?_⟩
          exact boolV (by rw [It.tr, if_pos rfl, trL_map]) (q H3 s3)
      · refine ifF (by first | decide +kernel | (rw [strE]; exact decide_eq_true rfl) | (rw [strE]; refine decide_eq_false ?_; simp only [It.word]; decide +kernel)) ⟨_, rfl, rfl, _, rfl, ?_⟩
        refine ifF (by first | decide +kernel | (rw [strE]; exact decide_eq_true rfl) | (rw [strE]; refine decide_eq_false ?_; simp only [It.word]; decide +kernel)) ⟨_, rfl, rfl, _, rfl, ?_⟩
        refine ifF (by first | decide +kernel | (rw [strE]; exact decide_eq_true rfl) | (rw [strE]; refine decide_eq_false ?_; simp only [It.word]; decide +kernel)) ⟨_, rfl, rfl, _, rfl, ?_⟩
        refine ifF (by first | decide +kernel | (rw [strE]; exact decide_eq_true rfl) | (rw [strE]; refine decide_eq_false ?_; simp only [It.word]; decide +kernel)) ⟨_, rfl, rfl, _, rfl, ?_⟩
        refine ifF (by first | decide +kernel | (rw [strE]; exact decide_eq_true rfl) | (rw [strE]; refine decide_eq_false ?_; simp only [It.word]; decide +kernel)) ⟨_, rfl, rfl, _, rfl, ?_⟩
        refine ifF (by first | decide +kernel | (rw [strE]; exact decide_eq_true rfl) | (rw [strE]; refine decide_eq_false ?_; simp only [It.word]; decide +kernel)) ⟨_, rfl, a, _, 1, _, rfl, rfl, sqt e, atI1, b, rfl, ⟨_, sqt e2⟩, fun D hD => ?_⟩
        refine lc_tup (K := K) (a := b) (xs := ys) (fun (j : Nat) (H' : Hp) => Same H H' ∧ H' D = some (.lst (((l.take j).map (It.tr ρ)).map V.bl))) ?_ ?_ ?_ ?_
        · exact ⟨same_new hD _, by rw [upd_same, List.take_zero] <;> rfl⟩
        · rintro j H' _ ⟨s3, _⟩
          exact sqt (s3 _ _ e2)
        · rintro j x H' hx ⟨s3, e3⟩
          obtain ⟨u, hu, hin, hmem⟩ := hkids.get hx
          refine ⟨rfl, yes_if ?_⟩
          refine ⟨_, rfl, _, rfl, _, dv, u, xs, B, k, ρ, rfl, (hv.same s3).kid hmem (hin.mono (Tp.same s3)) (hall u hmem), fun H4 s4 => ?_⟩
          refine ⟨_, s4 _ _ e3, ?_, same_put (s3.trans s4) hD, ?_⟩
          · rw [List.length_map, List.length_map, List.length_take]
            exact small1000 (by omega)
          · rw [upd_same, truths hu]
        · rintro H3 ⟨s3, e3⟩
          rw [hlen, List.take_length] at e3
          refine ⟨D, _, rfl, sqd e3, ?_⟩
          exact boolV (by rw [It.tr, if_neg (by decide +kernel), trL_map]) (q H3 s3)
theorem rd_values (hN : base.NoSeer) (hp : P.given.tree = none) (T : Txt K mg) : ∀ n : Nat, FnOk P w K mg base CX0 (n + 33) T.avalue_of T.dvalue_of Pvalue_of (spEv n) ∧ FnOk P w K mg base CX0 (n + 33) T.aholds T.dholds Pholds (spTr n)
  | 0 => ⟨no_ev, no_tr⟩
  | n + 1 => by
    obtain ⟨gv, gh⟩ := rd_values hN hp T n
    exact ⟨rd_value hN hp T (by omega) gv gh, rd_holds T gv gh⟩
end
end NL

namespace NL
open PySem PySem.Spec PyProof.Rows L2
theorem bigv {n : Nat} (h : n ≤ 1000000) : n < sizeLine := Nat.lt_of_le_of_lt h (by decide)
section
variable {P : Program} {w : World} {K : PySem.W.Frag} {mg : Str → Option Value} {base : Heap}
/-! ### _law_values -/
def spVals (K : PySem.W.Frag) (B : Nat) : Sp := fun vs H Q _ => ∃ (d n : Addr) (xs : List Str) (c : Int), vs = [.ref d, .ref n, .int c] ∧ Dr H d ∧ Keep K d H n (xs.map V.str) ∧ c.natAbs ≤ B ∧ xs.length ≤ 1000 ∧
  ∀ (p : Addr) (kvs : List (Key × V)) (ρ : Str → Int) H', Go d H H' → H p = none → H' p = some (.dK kvs) → Cn B kvs → (∀ x ∈ xs, valV kvs (Sum.inr x) = some (.int (ρ x)) ∧ (ρ x).natAbs ≤ B) → Q (.ref p) H'
theorem ok_law_values {B : Nat} (hB : 100 ≤ B) (T : Txt K mg) : FnOk P w K mg base CX0 3 T.a_law_values T.d_law_values P_law_values (spVals K B) := by
  have G_law_number := ok_law_number (P := P) (w := w) (base := base) hB T
  refine T.F_law_values.ok sc_law_values (fun vs H Q E h => ?_) (fun cdv A outer s H vs Q E hr h => ?_)
  · obtain ⟨d, n, xs, c, rfl, _⟩ := h
    rfl
  obtain ⟨d, n, xs, c, rfl, hD, hk, hc, hl, q⟩ := h
  refine ⟨_, (pss_cons (ps_set (i := 3) sc_law_values.nd rfl (Or.inl rfl) (pe_disp (pps_cons pe_str pe_int pps_nil) (by rfl) (by rfl) (fun z => by cases z) (by decide)))
    (pss_cons (ps_for PassesOwn.never rfl (pi_list (pv 1)) (pg_name (i := 4) sc_law_values.nd rfl (Or.inl rfl))
    (pss_one (ps_dput (hu_of hr) (pv 3) (pv 4) (pe_call G_law_number (hr.mono (by omega)) (by rfl) T.m_law_number T.F_law_number.kp T.b_law_number .nil pass0 (pa_cons (pv 0) (pa_cons (pv 2) pa_nil))) rfl)))
    (pss_one (ps_ret (pv 3))))), ?_⟩
  refine fun p hp => ⟨upd_same, [(Sum.inr "zzzz", V.int 1)], rfl, by decide, ?_⟩
  have np : p ≠ d := new_ne hD hp
  have g0 : Go d H (upd (upd H p (.dK [])) p (.dK (mergeK [] [((Sum.inr "zzzz" : Key), V.int 1)]))) := (Go.new hD hp).put2 hp np
  refine ⟨_, rfl, n, rfl, ⟨_, (hk.go g0).now⟩, for_list (K := K) (a := n) (xs := xs.map V.str) (fun j σ H' => ∃ (kvs : List (Key × V)) (y : Option V), σ = [some (.ref d), some (.ref n), some (.int c), some (.ref p), y] ∧ Go d H H' ∧ H' p = some (.dK kvs) ∧ Cn B kvs ∧ kvs.length ≤ j + 1 ∧
    ∀ x ∈ xs.take j, ∃ m : Int, valV kvs (Sum.inr x) = some (.int m)) ?_ ?_ ?_ ?_⟩
  · refine ⟨_, none, rfl, g0, upd_same, ?_, Nat.le_refl 1, fun x hx => by rw [List.take_zero] at hx; cases hx⟩
    intro z hz
    have e : mergeK [] [((Sum.inr "zzzz" : Key), V.int 1)] = [((Sum.inr "zzzz" : Key), V.int 1)] := rfl
    rw [e] at hz ⊢
    rw [List.mem_singleton.mp hz]
    exact ⟨valV_pos rfl, 1, rfl, by omega⟩
  · rintro j σ H' _ ⟨kvs, y, rfl, g, _⟩
    exact (hk.go g).now
  · rintro j x σ H' hx ⟨kvs, y, rfl, g, e, hC, hlen, hall⟩
    rw [List.getElem?_map] at hx
    cases hxj : xs[j]? with
    | none => rw [hxj] at hx; cases hx
    | some nm =>
      rw [hxj] at hx
      obtain rfl : V.str nm = x := Option.some.inj hx
      have hj : j < xs.length := (List.getElem?_eq_some_iff.mp hxj).1
      refine ⟨_, rfl, _, rfl, d, c, rfl, g.dr, hc, fun m H1 g1 hm => ?_⟩
      have e1 := g1.fr p _ np e
      refine ⟨_, rfl, _, rfl, p, _, rfl, DPut.k (k := Sum.inr nm) e1 (bigv (by omega)), ?_⟩
      refine ⟨putK kvs (Sum.inr nm) (.int m), _, rfl, (g.trans g1).put2 hp np, upd_same, hC.put _ hm, ?_, fun z hz => ?_⟩
      · have := length_putK kvs (Sum.inr nm : Key) (V.int m)
        omega
      · rw [valV_put]
        by_cases h : (Sum.inr z : Key) = Sum.inr nm
        · exact ⟨m, if_pos h⟩
        · rw [if_neg h]
          rw [List.take_add_one, hxj] at hz
          rcases List.mem_append.mp hz with hz | hz
          · exact hall z hz
          · have : z = nm := by simpa using hz
            exact absurd (by rw [this]) h
  · rintro σ H' ⟨kvs, y, rfl, g, e, hC, hlen, hall⟩
    rw [List.length_map, List.take_length] at hall
    refine ⟨_, rfl, q p kvs (fun x => match valV kvs (Sum.inr x) with | some (.int m) => m | _ => 0) H' g hp e hC fun x hx => ?_⟩
    obtain ⟨m, hm⟩ := hall x hx
    obtain ⟨m', e', hb⟩ := hC.val hm
    cases e'
    refine ⟨by rw [hm], ?_⟩
    rw [hm]
    exact hb
end
end NL

namespace NL
open PySem PySem.Spec PyProof.Rows L2
/-! ### the written form, and its tokens -/
/-- what a name in a text is at least -/
structure Nw (z : Str) : Prop where
  wd : Wd z
  len : z.length ≤ 250
theorem Nam.nw {z : Str} (h : Nam z) : Nw z := ⟨h.wd, by have := h.len; omega⟩
def itxt (n : Int) : Str := Str.ofString (toString n)
mutual
def It.wr : It → Str
  | .num n => itxt n
  | .name x => x
  | .lit b => bstr b
  | .un w a => w ++ "(" ++ Str.join ", " [a.wr] ++ ")"
  | .dm w a n => w ++ "(" ++ Str.join ", " [a.wr, itxt n] ++ ")"
  | .bin w a b => w ++ "(" ++ Str.join ", " [a.wr, b.wr] ++ ")"
  | .tri a b c => "if" ++ "(" ++ Str.join ", " [a.wr, b.wr, c.wr] ++ ")"
  | .grp w l => w ++ "(" ++ Str.join ", " (wrL l) ++ ")"
def wrL : List It → List Str
  | [] => []
  | a :: r => a.wr :: wrL r
end
theorem wrL_map : ∀ l : List It, wrL l = l.map It.wr
  | [] => by rw [wrL]; rfl
  | a :: r => by rw [wrL, wrL_map r]; rfl
/-- rows of tokens with a comma between two of them -/
def sepF : List (List Str) → List Str
  | [] => []
  | a :: r => a ++ r.flatMap fun t => ("," : Str) :: t
theorem sepF_snoc (l : List (List Str)) (t : List Str) : sepF (l ++ [t]) = sepF l ++ (if l = [] then ([] : List Str) else [","]) ++ t := by
  cases l with
  | nil => simp [sepF]
  | cons a r => simp [sepF, List.flatMap_append]
mutual
def It.tk : It → List Str
  | .num n => [itxt n]
  | .name x => [x]
  | .lit b => [bstr b]
  | .un w a => ([w, "("] : List Str) ++ sepF [a.tk] ++ ([")"] : List Str)
  | .dm w a n => ([w, "("] : List Str) ++ sepF [a.tk] ++ ([",", itxt n] : List Str) ++ ([")"] : List Str)
  | .bin w a b => ([w, "("] : List Str) ++ sepF [a.tk, b.tk] ++ ([")"] : List Str)
  | .tri a b c => (["if", "("] : List Str) ++ sepF [a.tk, b.tk, c.tk] ++ ([")"] : List Str)
  | .grp w l => ([w, "("] : List Str) ++ sepF (tkL l) ++ ([")"] : List Str)
def tkL : List It → List (List Str)
  | [] => []
  | a :: r => a.tk :: tkL r
end
theorem tkL_map : ∀ l : List It, tkL l = l.map It.tk
  | [] => by rw [tkL]; rfl
  | a :: r => by rw [tkL, tkL_map r]; rfl
/-- behind the parts: the divisor -/
def It.tailT : It → List Str
  | .dm _ _ n => [",", itxt n]
  | _ => []
def It.tailW : It → List Str
  | .dm _ _ n => [itxt n]
  | _ => []
theorem tk_eq {i : It} (h : i.cls ≠ 0) : i.tk = ([i.word, "("] : List Str) ++ sepF (i.kids.map It.tk) ++ i.tailT ++ ([")"] : List Str) := by
  cases i with
  | num _ => exact absurd rfl h
  | name _ => exact absurd rfl h
  | lit _ => exact absurd rfl h
  | un w a => rw [It.tk]; simp [It.word, It.kids, It.tailT]
  | dm w a n => rw [It.tk]; simp [It.word, It.kids, It.tailT]
  | bin w a b => rw [It.tk]; simp [It.word, It.kids, It.tailT]
  | tri a b c => rw [It.tk]; simp [It.word, It.kids, It.tailT]
  | grp w l => rw [It.tk, tkL_map]; simp [It.word, It.kids, It.tailT]
theorem wr_eq {i : It} (h : i.cls ≠ 0) : i.wr = i.word ++ "(" ++ Str.join ", " (i.kids.map It.wr ++ i.tailW) ++ ")" := by
  cases i with
  | num _ => exact absurd rfl h
  | name _ => exact absurd rfl h
  | lit _ => exact absurd rfl h
  | un w a => rw [It.wr]; simp [It.word, It.kids, It.tailW]
  | dm w a n => rw [It.wr]; simp [It.word, It.kids, It.tailW]
  | bin w a b => rw [It.wr]; simp [It.word, It.kids, It.tailW]
  | tri a b c => rw [It.wr]; simp [It.word, It.kids, It.tailW]
  | grp w l => rw [It.wr, wrL_map]; simp [It.word, It.kids, It.tailW]
/-! ### what the tokens are worth together -/
def sub (t : Str) : Str := if t = "," then ", " else t
/-- the signs of the tokens, each comma with a space -/
def ct (ts : List Str) : List Nat := ts.flatMap fun t => (sub t).cps.toList
theorem ct_app (a b : List Str) : ct (a ++ b) = ct a ++ ct b := List.flatMap_append
theorem ct_cons (a : Str) (b : List Str) : ct (a :: b) = (sub a).cps.toList ++ ct b := rfl
theorem ct_nil : ct [] = [] := rfl
theorem join_codes : ∀ l : List Str, (Str.join "" l).cps.toList = l.flatMap fun t => t.cps.toList
  | [] => rfl
  | [x] => by
    show x.cps.toList = _
    simp
  | x :: y :: r => by
    have e : Str.join "" (x :: y :: r) = x ++ "" ++ Str.join "" (y :: r) := rfl
    rw [e, app_list, app_list, join_codes (y :: r), show ("" : Str).cps.toList = [] by decide +kernel, List.append_nil]
    rfl
theorem ct_join (ts : List Str) : (Str.join "" (ts.map sub)).cps.toList = ct ts := by
  rw [join_codes, List.flatMap_map]
  rfl
theorem sub_ne {t : Str} (h : t ≠ ",") : sub t = t := if_neg h
theorem ct_sep {f : It → List Str} {g : It → Str} : ∀ (l : List It), (∀ i ∈ l, ct (f i) = (g i).cps.toList) → ct (sepF (l.map f)) = (Str.join ", " (l.map g)).cps.toList
  | [], _ => rfl
  | [a], h => by
    show ct (f a ++ []) = (g a).cps.toList
    rw [List.append_nil]
    exact h a List.mem_cons_self
  | a :: b :: r, h => by
    have e : Str.join ", " ((a :: b :: r).map g) = g a ++ ", " ++ Str.join ", " ((b :: r).map g) := rfl
    have ih := ct_sep (b :: r) fun i hi => h i (List.mem_cons_of_mem _ hi)
    have e2 : sepF ((a :: b :: r).map f) = f a ++ ("," : Str) :: sepF ((b :: r).map f) := by
      show f a ++ ((("," : Str) :: f b) ++ _) = _
      rw [List.cons_append]
      rfl
    rw [e, app_list, app_list, e2, ct_app, h a List.mem_cons_self, ct_cons, ih]
    rw [show sub "," = ", " by decide +kernel, List.append_assoc]
theorem itxt_ne (n : Int) : itxt n ≠ "," := fun h => by
  have h44 := int_text_free' 44 ⟨by decide, by decide⟩ n
  have h2 : (44 : Nat) ∈ (itxt n).cps.toList := by rw [h]; decide +kernel
  exact h44 h2
theorem wd_ne {z : Str} (h : Wd z) : z ≠ "," := fun e => by
  rw [e] at h
  exact absurd h (by decide +kernel)
theorem word_wd {xs : List Str} {B : Nat} {b : Bool} {i : It} (h : Okx xs B b i) : Wd i.word ∧ i.word.length ≤ 6 := by
  have g : ∀ z ∈ (["number", "name", "true", "false", "abs", "not", "div", "mod", "add", "sub", "mul", "min", "max", "less", "equal", "if", "all", "any"] : List Str), Wd z ∧ z.length ≤ 6 := by decide +kernel
  refine g _ ?_
  simp only [List.mem_cons, List.not_mem_nil, or_false]
  cases h with
  | num _ => simp [It.word]
  | name _ => simp [It.word]
  | lit => rename_i b; cases b <;> simp [It.word, bstr]
  | abs _ => simp [It.word]
  | not _ => simp [It.word]
  | dm hw _ _ _ =>
    simp only [List.mem_cons, List.not_mem_nil, or_false] at hw
    rcases hw with rfl | rfl <;> simp [It.word]
  | bin hw _ _ =>
    simp only [List.mem_cons, List.not_mem_nil, or_false] at hw
    rcases hw with rfl | rfl | rfl | rfl | rfl <;> simp [It.word]
  | cmp hw _ _ =>
    simp only [List.mem_cons, List.not_mem_nil, or_false] at hw
    rcases hw with rfl | rfl <;> simp [It.word]
  | tri _ _ _ => simp [It.word]
  | grp hw _ _ =>
    simp only [List.mem_cons, List.not_mem_nil, or_false] at hw
    rcases hw with rfl | rfl <;> simp [It.word]
theorem kids_rec {xs : List Str} {B : Nat} {p : It → Prop} (leaf : ∀ b i, Okx xs B b i → i.cls = 0 → p i) (node : ∀ b i, Okx xs B b i → i.cls ≠ 0 → (∀ j ∈ i.kids, p j) → p i) {b : Bool} {i : It} (h : Okx xs B b i) : p i := by
  induction h with
  | num h => exact leaf _ _ (.num h) rfl
  | name h => exact leaf _ _ (.name h) rfl
  | lit => exact leaf _ _ .lit rfl
  | abs h ih =>
    refine node _ _ (.abs h) (by simp [It.cls]) fun j hj => ?_
    simp only [It.kids, List.mem_cons, List.not_mem_nil, or_false] at hj
    rw [hj]; exact ih
  | not h ih =>
    refine node _ _ (.not h) (by simp [It.cls]) fun j hj => ?_
    simp only [It.kids, List.mem_cons, List.not_mem_nil, or_false] at hj
    rw [hj]; exact ih
  | dm hw h h1 h2 ih =>
    refine node _ _ (.dm hw h h1 h2) (by simp [It.cls]) fun j hj => ?_
    simp only [It.kids, List.mem_cons, List.not_mem_nil, or_false] at hj
    rw [hj]; exact ih
  | bin hw h g ih jh =>
    refine node _ _ (.bin hw h g) (by simp [It.cls]) fun j hj => ?_
    simp only [It.kids, List.mem_cons, List.not_mem_nil, or_false] at hj
    rcases hj with e | e <;> rw [e] <;> assumption
  | cmp hw h g ih jh =>
    refine node _ _ (.cmp hw h g) (by simp [It.cls]) fun j hj => ?_
    simp only [It.kids, List.mem_cons, List.not_mem_nil, or_false] at hj
    rcases hj with e | e <;> rw [e] <;> assumption
  | tri h g k ih jh kh =>
    refine node _ _ (.tri h g k) (by simp [It.cls]) fun j hj => ?_
    simp only [It.kids, List.mem_cons, List.not_mem_nil, or_false] at hj
    rcases hj with e | e | e <;> rw [e] <;> assumption
  | grp hw hl h ih => exact node _ _ (.grp hw hl h) (by simp [It.cls]) (fun j hj => ih j hj)
/-- THE EQUATION: the tokens, glued, are the written form -/
theorem ct_tk {xs : List Str} {B : Nat} (hx : ∀ x ∈ xs, Nw x) {b : Bool} {i : It} (h : Okx xs B b i) : ct i.tk = i.wr.cps.toList := by
  refine kids_rec (p := fun i => ct i.tk = i.wr.cps.toList) (fun b i h h0 => ?_) (fun b i h h0 ih => ?_) h
  · cases h with
    | num _ => rw [It.tk, It.wr, ct_cons, ct_nil, List.append_nil, sub_ne (itxt_ne _)]
    | name hm => rw [It.tk, It.wr, ct_cons, ct_nil, List.append_nil, sub_ne (wd_ne (hx _ hm).wd)]
    | lit => rename_i b; cases b <;> (rw [It.tk, It.wr]; decide +kernel)
    | abs _ => cases h0
    | not _ => cases h0
    | dm _ _ _ _ => cases h0
    | bin _ _ _ => cases h0
    | cmp _ _ _ => cases h0
    | tri _ _ _ => cases h0
    | grp _ _ _ => cases h0
  · rw [tk_eq h0, wr_eq h0]
    have hs := ct_sep i.kids ih
    have hw := sub_ne (wd_ne (word_wd h).1)
    have e1 : ct ([i.word, "("] : List Str) = i.word.cps.toList ++ ("(" : Str).cps.toList := by
      rw [ct_cons, ct_cons, ct_nil, List.append_nil, hw, show sub "(" = "(" by decide +kernel]
    have e2 : ct ([")"] : List Str) = (")" : Str).cps.toList := by decide +kernel
    rw [ct_app, ct_app, ct_app, e1, e2, hs, app_list, app_list, app_list]
    congr 1
    rw [List.append_assoc]
    congr 1
    cases i with
    | dm w a n =>
      show (Str.join ", " [a.wr]).cps.toList ++ ct ([",", itxt n] : List Str) = (Str.join ", " [a.wr, itxt n]).cps.toList
      have e3 : Str.join ", " [a.wr, itxt n] = a.wr ++ ", " ++ itxt n := rfl
      have e4 : Str.join ", " [a.wr] = a.wr := rfl
      rw [e3, e4, ct_cons, ct_cons, ct_nil, sub_ne (itxt_ne n), app_list, app_list, show sub "," = ", " by decide +kernel, List.append_nil, List.append_assoc]
    | _ => simp [It.tailT, It.tailW, ct_nil]
/-! ### sizes -/
theorem itxt_len {n : Int} (h : n.natAbs < 10 ^ 61) : (itxt n).length ≤ 62 := by
  have h1 := int_text_length_le10 (by decide : 0 < 61) h
  have h2 : (itxt n).length = (toString n).length := PySem.ofString_length _
  omega
end NL

namespace NL
open PySem PySem.Spec PyProof.Rows L2
theorem sz_eq (i : It) : i.sz = 1 + szL i.kids := by
  cases i <;> simp only [It.sz, It.kids, szL] <;> omega
theorem szL_map (l : List It) : szL l = (l.map It.sz).sum := by
  induction l with
  | nil => rw [szL]; rfl
  | cons a r ih => rw [szL, ih, List.map_cons, List.sum_cons]
theorem join_len (sep : Str) : ∀ l : List Str, (Str.join sep l).length ≤ (l.map fun t => t.length + sep.length).sum
  | [] => Nat.zero_le _
  | [x] => by
    show x.length ≤ x.length + sep.length + 0
    omega
  | x :: y :: r => by
    have e : Str.join sep (x :: y :: r) = x ++ sep ++ Str.join sep (y :: r) := rfl
    have ih := join_len sep (y :: r)
    rw [e, len_app, len_app, List.map_cons, List.sum_cons]
    omega
theorem sum_le {f g : It → Nat} : ∀ l : List It, (∀ i ∈ l, f i ≤ g i) → (l.map f).sum ≤ (l.map g).sum
  | [], _ => Nat.le_refl _
  | a :: r, h => by
    rw [List.map_cons, List.map_cons, List.sum_cons, List.sum_cons]
    have h1 := h a List.mem_cons_self
    have h2 := sum_le r fun i hi => h i (List.mem_cons_of_mem _ hi)
    omega
theorem sum_mul (k : Nat) : ∀ l : List It, (l.map fun i => k * i.sz).sum = k * szL l
  | [] => by rw [szL]; rfl
  | a :: r => by rw [List.map_cons, List.sum_cons, sum_mul k r, szL, Nat.mul_add]
/-- ints of these items have short texts -/
theorem tail_len {xs : List Str} {B : Nat} (hB : B < 10 ^ 60 + 1) {b : Bool} {i : It} (h : Okx xs B b i) : (i.tailW.map fun t => t.length + 2).sum ≤ 64 ∧ i.tailT.length ≤ 2 := by
  cases h with
  | dm hw h h1 h2 =>
    rename_i n
    have hn := itxt_len (n := n) (by have e : (10 : Nat) ^ 61 = 10 * 10 ^ 60 := by decide
                                     omega)
    show (itxt n).length + 2 + 0 ≤ 64 ∧ 2 ≤ 2
    omega
  | _ => exact ⟨Nat.zero_le _, Nat.zero_le _⟩
theorem wr_len {xs : List Str} {B : Nat} (hx : ∀ x ∈ xs, Nw x) (hB : B < 10 ^ 60 + 1) {b : Bool} {i : It} (h : Okx xs B b i) : i.wr.length + 10 ≤ 300 * i.sz ∧ i.tk.length + 2 ≤ 10 * i.sz := by
  refine kids_rec (p := fun i => i.wr.length + 10 ≤ 300 * i.sz ∧ i.tk.length + 2 ≤ 10 * i.sz) (fun b i h h0 => ?_) (fun b i h h0 ih => ?_) h
  · cases h with
    | num hn =>
      rename_i n
      have hn := itxt_len (n := n) (by have e : (10 : Nat) ^ 61 = 10 * 10 ^ 60 := by decide
                                       omega)
      rw [It.wr, It.sz, It.tk, List.length_singleton]
      omega
    | name hm =>
      have := (hx _ hm).len
      rw [It.wr, It.sz, It.tk, List.length_singleton]
      omega
    | lit =>
      rename_i b
      rw [It.wr, It.sz, It.tk, List.length_singleton]
      have : (bstr b).length ≤ 10 := by cases b <;> decide +kernel
      omega
    | abs _ => cases h0
    | not _ => cases h0
    | dm _ _ _ _ => cases h0
    | bin _ _ _ => cases h0
    | cmp _ _ _ => cases h0
    | tri _ _ _ => cases h0
    | grp _ _ _ => cases h0
  · have hw := (word_wd h).2
    obtain ⟨t1, t2⟩ := tail_len hB h
    have hz := sz_eq i
    have l1 : ("(" : Str).length = 1 ∧ (")" : Str).length = 1 ∧ (", " : Str).length = 2 := by decide +kernel
    constructor
    · rw [wr_eq h0, len_app, len_app, len_app]
      have j := join_len ", " (i.kids.map It.wr ++ i.tailW)
      rw [l1.2.2, List.map_append, List.sum_append, List.map_map] at j
      have k := sum_le (f := (fun t : Str => t.length + 2) ∘ It.wr) (g := fun i => 300 * i.sz) i.kids fun i hi => by
        have := (ih i hi).1
        show i.wr.length + 2 ≤ 300 * i.sz
        omega
      rw [sum_mul] at k
      omega
    · rw [tk_eq h0, List.length_append, List.length_append, List.length_append]
      have hs : (sepF (i.kids.map It.tk)).length ≤ (i.kids.map fun i => i.tk.length + 1).sum := by
        cases i.kids with
        | nil => exact Nat.zero_le _
        | cons a r =>
          show (a.tk ++ (r.map It.tk).flatMap _).length ≤ _
          rw [List.length_append, List.length_flatMap, List.map_cons, List.sum_cons, List.map_map]
          have : ((fun a => (("," : Str) :: a).length) ∘ It.tk) = fun i : It => i.tk.length + 1 := rfl
          rw [this]
          omega
      have k := sum_le (f := fun i : It => i.tk.length + 1) (g := fun i => 10 * i.sz) i.kids fun i hi => by
        have := (ih i hi).2
        omega
      rw [sum_mul] at k
      have e1 : ([i.word, "("] : List Str).length = 2 ∧ ([")"] : List Str).length = 1 := ⟨rfl, rfl⟩
      omega
theorem log_ok {n : Int} (h : n.natAbs < 10 ^ 61) : n.natAbs.log2 < 1920 := by
  by_cases h0 : n.natAbs = 0
  · rw [h0]; decide
  · exact (Nat.log2_lt h0).mpr (Nat.lt_of_lt_of_le h (by decide))
end NL

namespace NL
open PySem PySem.Spec PyProof.Rows L2
theorem ItemIn.leaf {H : Hp} {i : It} {a : Addr} (h : ItemIn H i (.ref a)) (h3 : i.cls = 0) :
    (∃ n, i = .num n ∧ H a = some (.tup [.str "number", .int n])) ∨ (∃ x, i = .name x ∧ H a = some (.tup [.str "name", .str x])) ∨ ∃ b, i = .lit b ∧ H a = some (.tup [.str (bstr b)]) := by
  cases h with
  | num e => exact .inl ⟨_, rfl, e⟩
  | name e => exact .inr (.inl ⟨_, rfl, e⟩)
  | lit e => exact .inr (.inr ⟨_, rfl, e⟩)
  | un _ _ => cases h3
  | dm _ _ => cases h3
  | bin _ _ _ => cases h3
  | tri _ _ _ _ => cases h3
  | grp _ _ _ _ => cases h3
/-- an item that is no leaf has another word -/
theorem word_ne {xs : List Str} {B : Nat} {b : Bool} {i : It} (h : Okx xs B b i) (h0 : i.cls ≠ 0) {z : Str} (hz : z ∈ (["number", "name", "true", "false"] : List Str)) : decide (V.str i.word = V.str z) = false := by
  rw [strE]
  have c := (word_cls h).1
  have e : (i.cls == 0) = false := by simpa using h0
  rw [e] at c
  refine decide_eq_false fun q => ?_
  rw [← q] at hz
  exact absurd (show wl i.word _ = true from decide_eq_true hz) (by rw [c]; exact Bool.false_ne_true)
theorem in_divs {i : It} : (i.cls == 2) = true ↔ i.cls = 2 := by simp
section
variable {P : Program} {w : World} {K : PySem.W.Frag} {mg : Str → Option Value} {base : Heap}
/-! ### parts_in -/
def spParts : Sp := fun vs H Q _ => ∃ (v : V) (i : It) (xs : List Str) (B : Nat) (b : Bool), vs = [v] ∧ ItemIn H i v ∧ Okx xs B b i ∧ ∀ p ys H', Same H H' → H' p = some (.tup ys) → Kids H' i.kids ys → Q (.ref p) H'
theorem ok_parts_in (T : Txt K mg) : FnOk P w K mg base CX0 1 T.aparts_in T.dparts_in Pparts_in spParts := by
  refine T.Fparts_in.ok scparts_in (fun vs H Q E h => ?_) (fun cdv A outer s H vs Q E hr h => ?_)
  · obtain ⟨v, i, xs, B, b, rfl, _⟩ := h
    rfl
  obtain ⟨v, i, xs, B, b, rfl, hi, ho, q⟩ := h
  obtain ⟨a, rfl⟩ := hi.ref
  obtain ⟨r, ha⟩ := hi.head
  obtain ⟨c0, cn, ct_, c1, c2⟩ := word_cls ho
  refine ⟨_, (pss_cons (ps_set (i := 1) scparts_in.nd rfl (Or.inl rfl) (pe_ix ix_tup (pv 0) pe_int (fun _ _ => rfl)))
    (pss_cons (ps_if (pt_cmpR op_in_seq (pv 1) (pe_tup (pa_cons pe_str (pa_cons pe_str pa_nil))) (by rfl))
    (pss_one (ps_ret (pe_tup pa_nil)))
    pss_nil)
    (pss_cons (ps_if (pt_cmpR op_in_seq (pv 1) (pe_tup (pa_cons pe_str (pa_cons pe_str pa_nil))) (by rfl))
    (pss_one (ps_ret (pe_slice sl_tup (pv 0) (po_some pe_int) (po_some pe_int))))
    pss_nil)
    (pss_cons (ps_if (pt_cmpR op_in_seq (pv 1) (pe_tup (pa_cons pe_str (pa_cons pe_str pa_nil))) (by rfl))
    (pss_one (ps_ret (pe_ix ix_tup (pv 0) pe_int (fun _ _ => rfl))))
    pss_nil)
    (pss_one (ps_ret (pe_slice sl_tup (pv 0) (po_some pe_int) po_none))))))), ?_⟩
  refine ⟨_, rfl, a, _, 0, _, rfl, rfl, sqt ha, atI0, ?_⟩
  refine ⟨_, rfl, (Nat.le_of_ble_eq_true rfl), fun p1 hp1 => ?_⟩
  have s1 := fun o => same_new hp1 o
  refine ⟨p1, _, rfl, .inr (sqt upd_same), rfl, (by decide +kernel), _, rfl, ?_⟩
  by_cases hnn : (i.cls == 0 && !b) = true
  · refine ifT (inT (ys := ["number", "name"]) rfl (by rw [cn]; exact hnn)) ?_
    have h0 : i.cls = 0 := by simp at hnn; exact hnn.1
    refine ⟨(Nat.le_of_ble_eq_true rfl), fun p hp => ?_⟩
    exact q p [] _ ((s1 _).trans (same_new hp _)) upd_same (by rw [kids_leaf h0]; exact kids0)
  refine ifF (inT (ys := ["number", "name"]) rfl (by rw [cn]; simpa using hnn)) ?_
  refine ⟨_, rfl, (Nat.le_of_ble_eq_true rfl), fun p2 hp2 => ?_⟩
  have s2 := fun o => (s1 _).trans (same_new hp2 o)
  refine ⟨p2, _, rfl, .inr (sqt upd_same), rfl, (by decide +kernel), _, rfl, ?_⟩
  by_cases h2 : i.cls = 2
  · refine ifT (inT (ys := ["div", "mod"]) rfl (by rw [c2, h2] <;> rfl)) ?_
    obtain ⟨x, j, n, e1, hj, ej⟩ := hi.divs h2
    refine ⟨_, rfl, 1, rfl, 2, rfl, a, _, rfl, sqt (s2 _ _ _ e1), not_whole _ _ _, fun p hp => ?_⟩
    refine q p [x] _ ((s2 _).trans (same_new hp _)) upd_same ?_
    rw [ej]
    exact kids1 (hj.mono (Tp.same ((s2 _).trans (same_new hp _))))
  refine ifF (inT (ys := ["div", "mod"]) rfl (by rw [c2]; simpa using h2)) ?_
  refine ⟨_, rfl, (Nat.le_of_ble_eq_true rfl), fun p3 hp3 => ?_⟩
  have s3 := fun o => (s2 _).trans (same_new hp3 o)
  refine ⟨p3, _, rfl, .inr (sqt upd_same), rfl, (by decide +kernel), _, rfl, ?_⟩
  by_cases h1 : i.cls = 1
  · refine ifT (inT (ys := ["all", "any"]) rfl (by rw [c1, h1] <;> rfl)) ?_
    obtain ⟨b2, ys, e1, e2, hk⟩ := hi.group h1
    refine ⟨_, rfl, a, _, 1, _, rfl, rfl, sqt (s3 _ _ _ e1), atI1, ?_⟩
    exact q b2 ys _ (s3 _) (s3 _ _ _ e2) (hk.mono (Tp.same (s3 _)))
  refine ifF (inT (ys := ["all", "any"]) rfl (by rw [c1]; simpa using h1)) ?_
  by_cases h0 : i.cls = 0
  · -- true, false: nothing stands behind the word
    rcases hi.leaf h0 with ⟨n, e, e1⟩ | ⟨n, e, e1⟩ | ⟨n, e, e1⟩
    · subst e; cases ho; exact absurd rfl hnn
    · subst e; cases ho; exact absurd rfl hnn
    · refine ⟨_, rfl, 1, rfl, a, _, rfl, sqt (s3 _ _ _ e1), not_whole _ _ _, fun p hp => ?_⟩
      rw [cut_tail]
      exact q p [] _ ((s3 _).trans (same_new hp _)) upd_same (by rw [kids_leaf h0]; exact kids0)
  · obtain ⟨ys, e1, hk⟩ := hi.rest (by rcases cls_le i with h | h | h | h <;> first | exact absurd h h0 | exact absurd h h1 | exact absurd h h2 | exact h)
    refine ⟨_, rfl, 1, rfl, a, _, rfl, sqt (s3 _ _ _ e1), not_whole _ _ _, fun p hp => ?_⟩
    rw [cut_tail]
    exact q p ys _ ((s3 _).trans (same_new hp _)) upd_same (hk.mono (Tp.same ((s3 _).trans (same_new hp _))))
/-! ### _written -/
structure Fit (xs : List Str) (B n : Nat) (b : Bool) (i : It) : Prop where
  ok : Okx xs B b i
  nm : ∀ x ∈ xs, Nw x
  bd : B < 10 ^ 60 + 1
  dp : i.dep ≤ n
  sz : i.sz ≤ 1000
theorem Fit.kid {xs : List Str} {B n : Nat} {b : Bool} {i j : It} (f : Fit xs B (n + 1) b i) (h : j ∈ i.kids) : ∃ b', Fit xs B n b' j := by
  obtain ⟨b', ho⟩ := kids_ok f.ok j h
  have h1 := depL_in h
  have h2 := @kids_dep i
  have h3 := sz_eq i
  have h4 : j.sz ≤ szL i.kids := by
    have : ∀ l : List It, j ∈ l → j.sz ≤ szL l := fun l => by
      induction l with
      | nil => intro h; cases h
      | cons a r ih =>
        intro h
        rw [szL]
        rcases List.mem_cons.mp h with e | e
        · rw [e]; omega
        · have := ih e
          omega
    exact this _ h
  have h5 := f.dp
  have h6 := f.sz
  exact ⟨b', ho, f.nm, f.bd, by omega, by omega⟩
theorem big {n : Nat} (h : n ≤ 1000000) : n ≤ sizeLine := Nat.le_trans h (by decide)
theorem big' {n : Nat} (h : n ≤ 1000000) : n < sizeLine := Nat.lt_of_le_of_lt h (by decide)
theorem strV {Q : VK} {a b : Str} {H : Hp} (h : a = b) (q : Q (.str b) H) : Q (.str a) H := by rw [h]; exact q
def spWr (n : Nat) : Sp := fun vs H Q _ => ∃ (v : V) (i : It) (xs : List Str) (B : Nat) (b : Bool), vs = [v] ∧ ItemIn H i v ∧ Fit xs B n b i ∧ ∀ H', Same H H' → Q (.str i.wr) H'
end
end NL

namespace NL
open PySem PySem.Spec PyProof.Rows L2
/-! ### the names that stand in an item -/
mutual
def It.nms : It → List Str
  | .num _ => []
  | .name x => [x]
  | .lit _ => []
  | .un _ a => a.nms
  | .dm _ a _ => a.nms
  | .bin _ a b => a.nms ++ b.nms
  | .tri a b c => a.nms ++ (b.nms ++ c.nms)
  | .grp _ l => nmsL l
def nmsL : List It → List Str
  | [] => []
  | a :: r => a.nms ++ nmsL r
end
theorem nms_eq {i : It} (h : ∀ x, i ≠ .name x) : i.nms = nmsL i.kids := by
  cases i with
  | num n => simp only [It.nms, It.kids, nmsL]
  | name x => exact absurd rfl (h x)
  | lit b => simp only [It.nms, It.kids, nmsL]
  | un w a => simp only [It.nms, It.kids, nmsL, List.append_nil]
  | dm w a n => simp only [It.nms, It.kids, nmsL, List.append_nil]
  | bin w a b => simp only [It.nms, It.kids, nmsL, List.append_nil]
  | tri a b c => simp only [It.nms, It.kids, nmsL, List.append_nil]
  | grp w l => simp only [It.nms, It.kids]
theorem nmsL_snoc : ∀ (l : List It) (i : It), nmsL (l ++ [i]) = nmsL l ++ i.nms
  | [], i => by simp only [List.nil_append, nmsL, List.append_nil]
  | a :: r, i => by rw [List.cons_append, nmsL, nmsL, nmsL_snoc r i, List.append_assoc]
theorem nmsL_take {l : List It} {j : Nat} {i : It} (h : l[j]? = some i) : nmsL (l.take (j + 1)) = nmsL (l.take j) ++ i.nms := by
  rw [List.take_add_one, h]
  exact nmsL_snoc _ _
mutual
theorem nms_sz : ∀ i : It, i.nms.length ≤ i.sz
  | .num _ => by simp [It.nms]
  | .name x => by simp [It.nms, It.sz]
  | .lit _ => by simp [It.nms]
  | .un _ a => by have := nms_sz a; simp only [It.nms, It.sz]; omega
  | .dm _ a _ => by have := nms_sz a; simp only [It.nms, It.sz]; omega
  | .bin _ a b => by have := nms_sz a; have := nms_sz b; simp only [It.nms, It.sz, List.length_append]; omega
  | .tri a b c => by have := nms_sz a; have := nms_sz b; have := nms_sz c; simp only [It.nms, It.sz, List.length_append]; omega
  | .grp _ l => by have := nmsL_sz l; simp only [It.nms, It.sz]; omega
theorem nmsL_sz : ∀ l : List It, (nmsL l).length ≤ szL l
  | [] => by simp [nmsL]
  | a :: r => by have := nms_sz a; have := nmsL_sz r; simp only [nmsL, szL, List.length_append]; omega
end
theorem nmsL_in : ∀ {l : List It} {x : Str}, x ∈ nmsL l → ∃ i ∈ l, x ∈ i.nms
  | [], x, h => by rw [nmsL] at h; cases h
  | a :: r, x, h => by
    rw [nmsL, List.mem_append] at h
    rcases h with h | h
    · exact ⟨a, List.mem_cons_self, h⟩
    · obtain ⟨i, hi, hx⟩ := nmsL_in h
      exact ⟨i, List.mem_cons_of_mem _ hi, hx⟩
theorem nms_in {xs : List Str} {B : Nat} {b : Bool} {i : It} (h : Okx xs B b i) : ∀ x ∈ i.nms, x ∈ xs := by
  induction h with
  | num _ => intro x h; simp [It.nms] at h
  | name hx => intro x h; simp only [It.nms, List.mem_singleton] at h; rw [h]; exact hx
  | lit => intro x h; simp [It.nms] at h
  | abs _ ih => intro x h; simp only [It.nms] at h; exact ih x h
  | not _ ih => intro x h; simp only [It.nms] at h; exact ih x h
  | dm _ _ _ _ ih => intro x h; simp only [It.nms] at h; exact ih x h
  | bin _ _ _ ih1 ih2 => intro x h; simp only [It.nms, List.mem_append] at h; exact h.elim (ih1 x) (ih2 x)
  | cmp _ _ _ ih1 ih2 => intro x h; simp only [It.nms, List.mem_append] at h; exact h.elim (ih1 x) (ih2 x)
  | tri _ _ _ ih1 ih2 ih3 => intro x h; simp only [It.nms, List.mem_append] at h; exact h.elim (ih1 x) fun h => h.elim (ih2 x) (ih3 x)
  | grp _ _ _ ih =>
    intro x h
    simp only [It.nms] at h
    obtain ⟨i, hi, hx⟩ := nmsL_in h
    exact ih i hi x hx
theorem sz_take (l : List It) (j : Nat) : szL (l.take j) ≤ szL l := by
  induction l generalizing j with
  | nil => simp
  | cons a r ih =>
    cases j with
    | zero => simp [szL]
    | succ j => rw [List.take_succ_cons, szL, szL]; have := ih j; omega
theorem sz_in : ∀ {l : List It} {j : It}, j ∈ l → j.sz ≤ szL l
  | a :: r, j, h => by
    rw [szL]
    rcases List.mem_cons.mp h with e | e
    · rw [e]; omega
    · have := sz_in e
      omega
/-- the only item with the word "name" is a name -/
theorem word_name {H : Hp} {i : It} {a : Addr} (h : ItemIn H i (.ref a)) {xs : List Str} {B : Nat} {b : Bool} (ho : Okx xs B b i) :
    (∃ x, i = .name x ∧ H a = some (.tup [.str "name", .str x])) ∨ (decide (V.str i.word = V.str ("name" : Str)) = false ∧ ∀ x, i ≠ .name x) := by
  by_cases h0 : i.cls = 0
  · rcases h.leaf h0 with ⟨n, e, e1⟩ | ⟨n, e, e1⟩ | ⟨n, e, e1⟩
    · subst e; exact .inr ⟨by show decide (V.str ("number" : Str) = V.str ("name" : Str)) = false; decide +kernel, fun x h => by cases h⟩
    · exact .inl ⟨n, e, e1⟩
    · subst e; exact .inr ⟨by cases n <;> decide +kernel, fun x h => by cases h⟩
  · exact .inr ⟨word_ne ho h0 (by decide +kernel), fun x e => by rw [e] at h0; exact h0 rfl⟩
structure Nit (xs : List Str) (B n : Nat) (b : Bool) (i : It) : Prop where
  ok : Okx xs B b i
  dp : i.dep ≤ n
  sz : i.sz ≤ 1000
theorem Nit.kid {xs : List Str} {B n : Nat} {b : Bool} {i j : It} (f : Nit xs B (n + 1) b i) (h : j ∈ i.kids) : ∃ b', Nit xs B n b' j := by
  obtain ⟨b', ho⟩ := kids_ok f.ok j h
  have h1 := depL_in h
  have h2 := @kids_dep i
  have h3 := sz_eq i
  have h4 := sz_in h
  have h5 := f.dp
  have h6 := f.sz
  exact ⟨b', ho, by omega, by omega⟩
section
variable {P : Program} {w : World} {K : PySem.W.Frag} {mg : Str → Option Value} {base : Heap}
/-! ### _all_names, _law_all_names -/
def spAllNames (n : Nat) : Sp := fun vs H Q _ => ∃ (v : V) (i : It) (xs : List Str) (B : Nat) (b : Bool), vs = [v] ∧ ItemIn H i v ∧ Nit xs B n b i ∧ ∀ p H', Same H H' → H p = none → H' p = some (.lst (i.nms.map V.str)) → Q (.ref p) H'
theorem no_nms {fa : Addr} {fd : FuncData} {ps : List Str} {c : Nat} : FnOk P w K mg base CX0 c fa fd ps (spAllNames 0) := by
  have no : ∀ vs H Q E, ¬ spAllNames 0 vs H Q E := fun vs H Q E ⟨v, i, xs, B, b, _, _, h, _⟩ => by
    have := dep_pos i
    have := h.dp
    omega
  exact ⟨fun vs H Q E h => absurd h (no vs H Q E), fun A outer s H args us vs Q E _ _ _ _ h => absurd h (no vs H Q E)⟩
theorem ok_all_names (T : Txt K mg) : ∀ n : Nat, FnOk P w K mg base CX0 (n + 2) T.a_all_names T.d_all_names P_all_names (spAllNames n)
  | 0 => no_nms
  | n + 1 => by
    have G_all_names := ok_all_names T n
    have Gparts_in := ok_parts_in (P := P) (w := w) (base := base) T
    refine T.F_all_names.ok sc_all_names (fun vs H Q E h => ?_) (fun cdv A outer s H vs Q E hr h => ?_)
    · obtain ⟨v, i, xs, B, b, rfl, _⟩ := h
      rfl
    obtain ⟨v, i, xs, B, b, rfl, hi, hf, q⟩ := h
    obtain ⟨a, rfl⟩ := hi.ref
    obtain ⟨r, ha⟩ := hi.head
    have ho := hf.ok
    have hz := hf.sz
    have hkz := sz_eq i
    refine ⟨_, (pss_cons (ps_if (pt_cmpR op_eq (pe_ix ix_tup (pv 0) pe_int (fun _ _ => rfl)) pe_str (nomark _))
    (pss_one (ps_ret (pe_lst (pa_cons (pe_ix ix_tup (pv 0) pe_int (fun _ _ => rfl)) pa_nil))))
    pss_nil)
    (pss_cons (ps_set (i := 1) sc_all_names.nd rfl (Or.inl rfl) (pe_lst pa_nil))
    (pss_cons (ps_for PassesOwn.never rfl (pi_tup (pe_call Gparts_in (hr.mono (by omega)) (by rfl) T.mparts_in T.Fparts_in.kp T.bparts_in .nil pass0 (pa_cons (pv 0) pa_nil))) (pg_name (i := 2) sc_all_names.nd rfl (Or.inl rfl))
    (pss_one (ps_expr (pe_bm PySem.F.plainAttrs_list PySem.F.slot_list_extend PySem.F.type_list_extend mt_extend (pv 1) (pa_cons (pe_call G_all_names (hr.mono (by omega)) (by rfl) T.m_all_names T.F_all_names.kp T.b_all_names .nil pass0 (pa_cons (pv 2) pa_nil)) pa_nil)))))
    (pss_one (ps_ret (pv 1)))))), ?_⟩
    refine ⟨_, rfl, a, _, 0, _, rfl, rfl, sqt ha, atI0, rfl, _, rfl, ?_⟩
    rcases word_name hi ho with ⟨x, rfl, e1⟩ | ⟨hw, hne⟩
    · refine ifT (by show decide (V.str ("name" : Str) = V.str ("name" : Str)) = true; decide +kernel) ?_
      refine ⟨_, rfl, a, _, 1, _, rfl, rfl, sqt e1, atI1, (Nat.le_of_ble_eq_true rfl), fun p hp => ?_⟩
      exact q p _ (same_new hp _) hp (by rw [upd_same, It.nms]; rfl)
    · refine ifF hw ?_
      refine ⟨(Nat.le_of_ble_eq_true rfl), fun p1 hp1 => ?_⟩
      have s1 := fun o => same_new hp1 o
      refine ⟨_, rfl, _, i, xs, B, b, rfl, hi.mono (Tp.same (s1 _)), ho, fun tp ys H2 s2 e2 hk => ?_⟩
      have e0 := s2 p1 _ upd_same
      refine ⟨tp, rfl, ⟨_, sqt e2⟩, for_tup (K := K) (a := tp) (xs := ys) (fun (j : Nat) (σ : L2.St) (H' : Hp) => ∃ y2 : Option V, σ = [some (.ref a), some (.ref p1), y2] ∧ Same H H' ∧ H' tp = some (.tup ys) ∧ Kids H' i.kids ys ∧ H' p1 = some (.lst ((nmsL (i.kids.take j)).map V.str))) ?_ ?_ ?_ ?_⟩
      · exact ⟨none, rfl, (s1 _).trans s2, e2, hk, by rw [e0, List.take_zero]; rfl⟩
      · rintro j σ H' _ ⟨y2, rfl, s3, e3, _⟩
        exact sqt e3
      · rintro j x σ H3 hx ⟨y2, rfl, s3, e3, hk3, e4⟩
        obtain ⟨kj, hkj, hin, hmem⟩ := hk3.get hx
        obtain ⟨b', hf'⟩ := hf.kid hmem
        refine ⟨_, rfl, .inl ⟨rfl, _, sqd e4⟩, _, rfl, _, kj, xs, B, b', rfl, hin, hf', fun p5 H5 s5 hp5 e5 => ?_⟩
        have hl1 := nmsL_sz (i.kids.take j)
        have hl2 := sz_take i.kids j
        have hl3 := nms_sz kj
        have hl4 := sz_in hmem
        refine ⟨p1, p5, _, _, rfl, rfl, s5 _ _ e4, e5, ?_, ?_⟩
        · rw [List.length_map, List.length_map]
          exact big (by omega)
        · have n1 : tp ≠ p1 := fun h => by rw [h, e4] at e3; cases e3
          have sp := fun o => same_put (o := o) (s3.trans s5) hp1
          have tp' : Tp H3 (upd H5 p1 (.lst ((nmsL (i.kids.take j)).map V.str ++ kj.nms.map V.str))) := fun b us hb => by
            have hb5 := s5 b _ hb
            by_cases c : b = p1
            · subst c; rw [e4] at hb; cases hb
            · rw [upd_ne c]; exact hb5
          refine ⟨_, rfl, sp _, tp' _ _ e3, hk3.mono tp', ?_⟩
          rw [upd_same, nmsL_take hkj, List.map_append]
      · rintro σ H3 ⟨y2, rfl, s3, e3, hk3, e4⟩
        rw [hk3.1, List.take_length, ← nms_eq hne] at e4
        exact ⟨_, rfl, q p1 _ s3 hp1 e4⟩
end
end NL

set_option maxHeartbeats 4000000
namespace NL
open PySem PySem.Spec PyProof.Rows L2
/-! sets of texts: the objects, one more text -/
def keyS (e : Int × Value) : Str := match e.2 with | .str x _ => x | _ => Str.empty
def GoodS (P : Program) (w : World) (e : Int × Value) : Prop := ∃ x tk, e.2 = Value.str x tk ∧ e.1 = (PySem.strKind P w).hash x
def SetS (P : Program) (w : World) (h : Heap) (a : Addr) (S : Str → Bool) (n : Nat) : Prop :=
  ∃ o es ep t, h.get? a = some o ∧ o.ExactSet ∧ o.data = .set es ep t ∧ (∀ e ∈ es.toList, GoodS P w e) ∧ (es.toList.map keyS).Nodup ∧ (∀ k, S k = true ↔ k ∈ es.toList.map keyS) ∧
    es.size < scanBound ∧ t.fits es.size = true ∧ es.size = n ∧ Ris t.place.toList ∧ (w.params.followText "set-order" = true ∨ t.led = true)
section
variable {P : Program} {w : World} {h h' : Heap} {a : Addr} {S : Str → Bool} {n : Nat}
theorem SetS.at (R : SetS P w h a S n) (k : ∀ o, h.get? a = some o → h'.get? a = some o) : SetS P w h' a S n := by
  obtain ⟨o, es, ep, t, ho, r⟩ := R
  exact ⟨o, es, ep, t, k o ho, r⟩
theorem SetS.congr {S' : Str → Bool} (R : SetS P w h a S n) (e : ∀ k, S' k = S k) : SetS P w h a S' n := by
  have q : S' = S := funext e
  rw [q]; exact R
theorem goodS_elems {l : List (Int × Value)} (g : ∀ e ∈ l, GoodS P w e) : ElemsOf (PySem.strKind P w) l := fun e he => by
  obtain ⟨k, tk, h1, h2⟩ := g e he
  exact ⟨⟨k, by rw [h1]; exact PySem.strKind_is P w k tk, h2⟩, by rw [h1] <;> rfl⟩
theorem goodS_is {e : Int × Value} (g : GoodS P w e) (k : Str) : (PySem.strKind P w).is k e.2 = true ↔ keyS e = k := by
  obtain ⟨k0, tk, h1, _⟩ := g
  have e1 : (PySem.strKind P w).is k e.2 = decide (k = k0) := PySem.KeyKind.is_eq_decide (by rw [h1]; exact PySem.strKind_is P w k0 tk) k
  rw [e1, decide_eq_true_eq]
  unfold keyS
  rw [h1]
  exact eq_comm
theorem goodS_mem {l : List (Int × Value)} (g : ∀ e ∈ l, GoodS P w e) (k : Str) : k ∈ l.map keyS ↔ ∃ e ∈ l, (PySem.strKind P w).is k e.2 = true := by
  rw [List.mem_map]
  constructor
  · rintro ⟨e, he, q⟩
    exact ⟨e, he, (goodS_is (g e he) k).2 q⟩
  · rintro ⟨e, he, q⟩
    exact ⟨e, he, (goodS_is (g e he) k).1 q⟩
end
section
variable {P : Program} {w : World} {A : Around} {E : Value → Shared → Prop} {s : Shared} {a : Addr} {S : Str → Bool} {n : Nat}
theorem setS_tail {g : Bool → Sem Unit} (hg : ∀ (b : Bool) (s₁ : Shared) (Q' : Unit → Shared → Prop), Q' () s₁ → wpAny (model P w) A (g b) Q' E s₁)
    {o : Obj} {es : Array (Int × Value)} {ep : Nat} {t : SetTable} (ho : s.heap.get? a = some o) (hex : o.ExactSet) (hd : o.data = .set es ep t)
    {es1 : Array (Int × Value)} {t2 : SetTable} {S' : Str → Bool} (g1 : ∀ e ∈ es1.toList, GoodS P w e) (nd1 : (es1.toList.map keyS).Nodup) (m1 : ∀ k, S' k = true ↔ k ∈ es1.toList.map keyS)
    (hb1 : es1.size < scanBound) (hf2 : t2.fits es1.size = true) (hr : Ris t2.place.toList) (hl : w.params.followText "set-order" = true ∨ t2.led = true) {wasDummy : Bool} {R : Option Bool → Shared → Prop}
    (hR : ∀ h', Heap.SameBut a s.heap h' → SetS P w h' a S' es1.size → R (some true) { s with heap := h' }) :
    wpAny (model P w) A (do
        storeSet a es1 t2
        if (!wasDummy && t2.tooFull) = true then do
            g (relayAll t2 es1 (SetTable.grown es1.size)).2.2
            storeSet a (relayAll t2 es1 (SetTable.grown es1.size)).1 (relayAll t2 es1 (SetTable.grown es1.size)).2.1
            pure (some true)
          else pure (some true)) R E s := by
  refine wpAny_bind (wpAny_storeSet_of ho hd ?_ (fits_of_scanBound hb1))
  have ho1 := store_at (es' := es1) (t' := t2) ho hd
  have sb1 := Heap.SameBut.update s.heap a (Obj.putSet es1 t2)
  split
  · have pm := relayAll_perm t2 es1 (SetTable.grown es1.size)
    have hf3 := relayAll_fits t2 es1 (SetTable.grown es1.size)
    have hr3 := relayAll_ris t2 es1 (SetTable.grown es1.size)
    have hl3 := relayAll_led t2 es1 (SetTable.grown es1.size)
    generalize relayAll t2 es1 (SetTable.grown es1.size) = Z at pm hf3 hr3 hl3 ⊢
    obtain ⟨es2, t3, gave⟩ := Z
    dsimp only at pm hf3 hr3 hl3 ⊢
    have hsz : es2.size = es1.size := by rw [← Array.length_toList, pm.length_eq, Array.length_toList]
    have hb2 : es2.size < scanBound := by rw [hsz]; exact hb1
    refine wpAny_bind (hg _ _ _ ?_)
    refine wpAny_bind (wpAny_storeSet_of ho1 rfl ?_ (fits_of_scanBound hb2))
    have ho2 := store_at (es' := es2) (t' := t3) ho1 rfl
    refine wpAny_pure (hR _ (sb1.trans (Heap.SameBut.update _ a _)) ?_)
    exact ⟨_, es2, _, t3, ho2, hex, rfl, fun e he => g1 e (pm.mem_iff.mp he), (pm.map keyS).nodup_iff.mpr nd1, fun k => (m1 k).trans (pm.map keyS).mem_iff.symm, hb2, hf3, hsz, hr3,
      hl.imp id fun z => by rw [hl3]; exact z⟩
  · exact wpAny_pure (hR _ sb1 ⟨_, es1, _, t2, ho1, hex, rfl, g1, nd1, m1, hb1, hf2, rfl, hr, hl⟩)
theorem setS_add_hashed {k : Str} {tk : Tok} {Q : Bool → Shared → Prop} (R : SetS P w s.heap a S n) (room : n + 1 < scanBound)
    (hQ : ∀ h', Heap.SameBut a s.heap h' → SetS P w h' a (fun j => S j || decide (j = k)) (if S k = true then n else n + 1) → Q (!S k) { s with heap := h' }) :
    wpAny (model P w) A (setAddHashed a (.str k tk) ((PySem.strKind P w).hash k)) Q E s := by
  obtain ⟨o, es, ep, t, ho, hex, hd, g, nd, hm, hb, hf, hn, hr, hl⟩ := R
  have hkey : (PySem.strKind P w).is k (.str k tk) = true := PySem.strKind_is P w k tk
  have hsc : (Value.str k tk).scannable = true := rfl
  have hel : ElemsOf (PySem.strKind P w) es.toList := goodS_elems g
  unfold setAddHashed setAddHashedIn
  refine wpAny_holding (wpAny_bind (wpAny_setState_of ho hd hf ?_))
  dsimp only
  rw [byScan_of hsc hb hel]
  simp only [↓reduceIte]
  unfold setAddByScan
  refine wpAny_bind ?_
  refine wpAny_bind (wpAny_rule ?_)
  refine wpAny_bind (wpAny_setScan_of hkey ho hd hf hel ?_)
  cases hfi : List.findIdx? (fun e => (PySem.strKind P w).is k e.2) es.toList with
  | some j =>
    dsimp only
    obtain ⟨hj, pj, _⟩ := List.findIdx?_eq_some_iff_getElem.mp hfi
    have hSk : S k = true := (hm k).2 ((goodS_mem (P := P) (w := w) g k).2 ⟨es.toList[j], List.getElem_mem hj, pj⟩)
    refine wpAny_pure (wpAny_pure ?_)
    have q := hQ s.heap (Heap.SameBut.refl a s.heap) ⟨o, es, ep, t, ho, hex, hd, g, nd, fun i => by
      rw [Bool.or_eq_true, decide_eq_true_eq, ← hm i]
      exact ⟨fun z => z.elim id (fun e => e ▸ hSk), .inl⟩, hb, hf, by rw [if_pos hSk]; exact hn, hr, hl⟩
    rw [hSk] at q
    exact q
  | none =>
    dsimp only
    have hnk : k ∉ es.toList.map keyS := fun z => by
      obtain ⟨e, he, q⟩ := (goodS_mem (P := P) (w := w) g k).1 z
      have c := List.findIdx?_eq_none_iff.mp hfi e he
      rw [q] at c
      cases c
    have hSk : S k = false := by
      cases q : S k with
      | false => rfl
      | true => exact absurd ((hm k).1 q) hnk
    have hgw : ∀ (b : Bool) {s₁ : Shared} {Q' : Unit → Shared → Prop}, Q' () s₁ → wpAny (model P w) A (match b with | true => rule "set.scan.the-table-gave-way" | false => pure ()) Q' E s₁ :=
      fun b s₁ Q' q => by cases b <;> first | exact wpAny_pure q | exact wpAny_rule q
    have pm := layNew_perm t es ((PySem.strKind P w).hash k) (.str k tk)
    have hf1 := layNew_fits t es ((PySem.strKind P w).hash k) (.str k tk)
    have hr1 := layNew_ris t es ((PySem.strKind P w).hash k) (.str k tk) hr
    have hl1 := layNew_led t es ((PySem.strKind P w).hash k) (.str k tk)
    generalize layNew t es ((PySem.strKind P w).hash k) (.str k tk) = Z at pm hf1 hr1 hl1 ⊢
    obtain ⟨es1, t1, wasDummy, gave⟩ := Z
    dsimp only at pm hf1 hr1 hl1 ⊢
    rw [Array.toList_push] at pm
    have pc : es1.toList.Perm (((PySem.strKind P w).hash k, Value.str k tk) :: es.toList) := pm.trans (List.perm_append_singleton _ _)
    have pk : (es1.toList.map keyS).Perm (k :: es.toList.map keyS) := pc.map keyS
    have g1 : ∀ e ∈ es1.toList, GoodS P w e := fun e he => by
      rcases List.mem_cons.mp (pc.mem_iff.mp he) with z | z
      · rw [z]; exact ⟨k, tk, rfl, rfl⟩
      · exact g e z
    have nd1 : (es1.toList.map keyS).Nodup := pk.nodup_iff.mpr (List.nodup_cons.mpr ⟨hnk, nd⟩)
    have m1 : ∀ i, (S i || decide (i = k)) = true ↔ i ∈ es1.toList.map keyS := fun i => by
      rw [Bool.or_eq_true, decide_eq_true_eq, hm i, pk.mem_iff, List.mem_cons]
      exact Or.comm
    have hsz : es1.size = n + 1 := by rw [← Array.length_toList, pc.length_eq, List.length_cons, Array.length_toList, hn]
    have hb1 : es1.size < scanBound := by rw [hsz]; exact room
    have hled : w.params.followText "set-order" = true ∨ t1.led = true := hl.imp id fun z => by rw [hl1]; exact z
    have fin : ∀ h', Heap.SameBut a s.heap h' → SetS P w h' a (fun j => S j || decide (j = k)) es1.size → Q true { s with heap := h' } := fun h' sb r => by
      have q := hQ h' sb
      rw [hSk] at q
      rw [hsz] at r
      exact q r
    refine wpAny_bind (hgw _ ?_)
    split
    · refine wpAny_bind ?_
      rw [hashByValue_scannable 8 hsc]
      refine wpAny_pure ?_
      refine setS_tail ?_ ho hex hd g1 nd1 m1 hb1 ?_ ?_ ?_ ?_
      · intro b s₁ Q' q; cases b <;> first | exact wpAny_pure q | exact wpAny_rule q
      · first | (split <;> first | exact hf1 | exact SetTable.fits_plain_off hf1) | exact hf1
      · first | (split <;> exact hr1) | exact hr1
      · first | (split <;> exact hled) | exact hled
      · intro h' sb r; dsimp only; exact wpAny_pure (fin h' sb r)
    · refine wpAny_bind (wpAny_pure ?_)
      simp only [↓reduceIte]
      refine setS_tail ?_ ho hex hd g1 nd1 m1 hb1 hf1 hr1 hled ?_
      · intro b s₁ Q' q; cases b <;> first | exact wpAny_pure q | exact wpAny_rule q
      · intro h' sb r; dsimp only; exact wpAny_pure (fin h' sb r)
theorem setS_new_at {h : Heap} {a : Addr} {xs : List Str} (ho : h.get? a = some { cls := .type "set", dict := none, data := .set #[] 0 (.fresh 0 0 (!w.params.followText "set-order")) }) : SetS P w h a (fun j => decide (j ∈ xs.take 0)) 0 :=
  ⟨_, #[], 0, _, ho, ⟨rfl, rfl, rfl⟩, rfl, (fun e he => by simp at he), (by simp), (fun k => by simp), (by decide), (by rfl), rfl, List.Pairwise.nil, by
    show _ ∨ (!w.params.followText "set-order") = true
    cases w.params.followText "set-order"
    · exact .inr rfl
    · exact .inl rfl⟩
theorem set_update_strs {I : Addr} {fp wr : List Addr} {G : Array GenState → Array GenState → Prop} {n : Nat} {Pv : Nat → Value → Prop} {St : Nat → Shared → Prop} {R : Result → Shared → Prop}
    (W : WalksS P w A.in1 I fp wr G n Pv St) (S : Addr) (hSf : S ∉ fp) (ns : List Str) (hn : n = ns.length) (hb : ns.length + 1 < scanBound) (hval : ∀ i v, Pv i v → ∃ k t, ns[i]? = some k ∧ v = .str k t) :
    ∀ (k i : Nat) (s : Shared), n - i = k → i ≤ n → St i s → (∃ c, c ≤ i ∧ SetS P w s.heap S (fun j => decide (j ∈ ns.take i)) c) →
      (∀ s' c, Moved (S :: wr) G s s' → c ≤ n → SetS P w s'.heap S (fun j => decide (j ∈ ns)) c → R (.ok (.ret .none)) s') →
      codeAny (model P w) A (.builtin "set.update.loop" ⟨[.ref S, .ref I], []⟩) R s := by
  have hSw : S ∉ wr := fun h => hSf (W.sub _ h)
  have hsub : ∀ b ∈ wr, b ∈ S :: wr := fun b hb => List.mem_cons_of_mem _ hb
  intro k
  induction k with
  | zero =>
    intro i s hk' hi hst ⟨c, hc, hS⟩ hR
    have hin : i = n := by omega
    subst hin
    refine codeAny_builtin F.entry_set_update_loop ?_
    rw [Around.under_plainId F.plain_set_update_loop _]
    show wpAny _ A.in1 (pyNext (.ref I) >>= _) _ _ s
    refine wpAny_bind (W.done s _ _ hst fun s' hm => ?_)
    show wpAny _ A.in1 (ret Value.none) _ _ s'
    have e : ns.take i = ns := List.take_of_length_le (by omega)
    rw [e] at hS
    exact wpAny_pure (hR s' c (hm.mono hsub) hc (hS.at fun o e => hm.heap S o hSw e))
  | succ k ih =>
    intro i s hk' hi hst ⟨c, hc, hS⟩ hR
    have hlt : i < n := by omega
    refine codeAny_builtin F.entry_set_update_loop ?_
    rw [Around.under_plainId F.plain_set_update_loop _]
    show wpAny _ A.in1 (pyNext (.ref I) >>= _) _ _ s
    refine wpAny_bind (W.item i s _ _ hlt hst fun v s' hP hst' hm => ?_)
    obtain ⟨z, t, hz, rfl⟩ := hval i v hP
    have hS' : SetS P w s'.heap S (fun j => decide (j ∈ ns.take i)) c := hS.at fun o e => hm.heap S o hSw e
    show wpAny _ A.in1 (holding [Value.str z t] (setAdd S (.str z t)) >>= _) _ _ s'
    refine wpAny_bind (wpAny_holding ?_)
    unfold setAdd
    refine wpAny_holding ?_
    refine wpAny_bind ((PySem.strKind P w).pyHash (k := z) (PySem.strKind_is _ _ _ _) ?_)
    refine setS_add_hashed (s := { s' with toks := s'.toks + 1 }) hS' (by omega) fun h' hsb hS2 => ?_
    have hS3 : SetS P w h' S (fun j => decide (j ∈ ns.take (i + 1))) (if decide (z ∈ ns.take i) = true then c else c + 1) := hS2.congr fun j => by
      rw [List.take_add_one, hz]
      simp [List.mem_append]
    have hc3 : (if decide (z ∈ ns.take i) = true then c else c + 1) ≤ i + 1 := by
      split <;> omega
    refine wpAny_pure ⟨plainId_quiet F.plain_set_update_loop _, ih (i + 1) _ (by omega) hlt (W.frame _ s' _ _ hst' (Nat.le_succ _) fun b hb o e => ?_) ⟨_, hc3, hS3⟩ fun s'' c2 hm'' hc'' hS'' => ?_⟩
    · rw [hsb.2 b (fun h : b = S => hSf (by rw [← h]; exact hb))]; exact e
    · refine hR s'' c2 (Moved.trans W.gtrans ((hm.mono hsub).then_heap (Nat.le_succ _) fun b o hb e => ?_) hm'') hc'' hS''
      rw [hsb.2 b (fun h : b = S => hb (by rw [h]; exact List.mem_cons_self))]; exact e
end
end NL

set_option maxHeartbeats 4000000
namespace NL
open PySem PySem.Spec PyProof.Rows L2
section
variable {P : Program} {w : World} {A : Around} {E : Value → Shared → Prop} {s : Shared}
set_option maxHeartbeats 3200000 in
theorem call_set_strs {l : Addr} {items : Array Value} (ns : List Str) {Q : Value → Shared → Prop} (hh : A.handled = none) (hl : s.heap.IsList l items) (hit : StrsAre items.toList ns) (hb : ns.length + 1 < scanBound)
    (h : ∀ (h' : Heap) (tk c : Nat), SetS P w h' s.heap.objs.size (fun j => decide (j ∈ ns)) c → c ≤ ns.length → (∀ b o, s.heap.get? b = some o → h'.get? b = some o) → Q (.ref s.heap.objs.size) { s with heap := h', toks := tk }) :
    wpAny (model P w) A (call (.type "set") [.ref l]) Q E s := by
  have hisz : items.size = ns.length := by
    have q := StrsAre.len_eq hit
    rw [Array.length_toList] at q
    exact q
  obtain ⟨c, tl, hmro⟩ := F.called_set.mro
  have hmade := F.called_set.made
  have hsub := F.called_set.sub
  refine wpAny_call (codeAny_of_tree ?_)
  show wpAny _ _ (callAny (.type "set") _) _ _ _
  refine wpAny_pure ⟨Code.quiet_builtin _ (by decide +kernel), codeAny_builtin F.entry_type_call ?_⟩
  rw [Around.under_plain (weight_type_call_type "set" [.ref l] []) rfl]
  have h1 := F.called_set.notType
  have h2 := F.called_set.canCreate
  have hct := F.typeCall_set_1 (.ref l)
  repeat (any_goals (first | assumption | wp_step))
  refine codeAny_mono (code_set_led1 (.ref l) (E := E) (Q₁ := fun obj s₁ => obj = .ref s.heap.objs.size ∧ s₁ = { s with heap := s.heap.push { cls := .type "set", dict := none, data := .set #[] 0 (.fresh 0 0 (!w.params.followText "set-order")) } }) ⟨rfl, rfl⟩) fun r s₁ hr => ?_
  cases r with
  | error e => exact hr
  | ok fl =>
    cases fl with
    | ret obj =>
      obtain ⟨rfl, rfl⟩ := hr
      have hS : (s.heap.push { cls := .type "set", dict := none, data := .set #[] 0 (.fresh 0 0 (!w.params.followText "set-order")) }).get? s.heap.objs.size = some { cls := .type "set", dict := none, data := .set #[] 0 (.fresh 0 0 (!w.params.followText "set-order")) } := Heap.get?_push_size _ rfl
      have hT : Shared.TypeIs { s with heap := s.heap.push { cls := .type "set", dict := none, data := .set #[] 0 (.fresh 0 0 (!w.params.followText "set-order")) } } (.ref s.heap.objs.size) "set" := ⟨_, hS, rfl⟩
      have hli := F.called_set.init.lookup
      have hbi := F.called_set.init.bind (.ref s.heap.objs.size)
      repeat (any_goals (first | assumption | wp_step))
      refine codeAny_mono (codeAny_call_builtin (R := wants (fun r s₂ => r = .none ∧ ∃ h' tk c, s₂ = { s with heap := h', toks := tk } ∧ SetS P w h' s.heap.objs.size (fun j => decide (j ∈ ns)) c ∧ c ≤ ns.length ∧
          (∀ b o, s.heap.get? b = some o → h'.get? b = some o)) E) F.called_set.init.plain F.entry_set_init (check_set_init_1 hT ?_)) fun r₂ s₂ hr₂ => ?_
      · obtain ⟨ol, hol, hcl, nl, hdl⟩ := hl
        obtain ⟨ocls, odict, odata, oslots⟩ := ol
        simp only at hcl hdl
        subst hcl; subst hdl
        have hol' : (s.heap.push { cls := .type "set", dict := none, data := .set #[] 0 (.fresh 0 0 (!w.params.followText "set-order")) }).get? l = some { cls := .type "list", dict := odict, data := .seq items nl, slots := oslots } := Heap.get?_push_of_some _ hol
        have hsls := F.sub_list_set
        have hslf := F.sub_list_frozenset
        have hne : (Value.type "list" == Value.type "dict") = false := by decide
        have hl1 : (s.heap.push { cls := .type "set", dict := none, data := .set #[] 0 (.fresh 0 0 (!w.params.followText "set-order")) }).IsList l items := ⟨_, hol', rfl, nl, rfl⟩
        unfold Builtin.«set.__init__» noKeywords Builtin.Frozenset.updateFrom
        generalize hPI : pyIter = PI
        wp_walk
        subst hPI
        refine wpAny_pyIter_list hl1 ?_
        refine wpAny_bind (wpAny_runValue ?_)
        have hlS : l < s.heap.objs.size := Heap.lt_size hol
        have hh3 : A.in1.in1.in1.handled = none := by simp [hh]
        have hneI : l ≠ (s.heap.push { cls := .type "set", dict := none, data := .set #[] 0 (.fresh 0 0 (!w.params.followText "set-order")) }).objs.size := by
          rw [Heap.size_push]; exact Nat.ne_of_lt (Nat.lt_succ_of_lt hlS)
        have hSf : s.heap.objs.size ∉ [(s.heap.push { cls := .type "set", dict := none, data := .set #[] 0 (.fresh 0 0 (!w.params.followText "set-order")) }).objs.size, l] := by
          rw [Heap.size_push]; simp only [List.mem_cons, List.mem_singleton, List.not_mem_nil, or_false, not_or]
          exact ⟨Nat.ne_of_lt (Nat.lt_succ_self _), Nat.ne_of_gt hlS⟩
        have hval : ∀ (i : Nat) (v : Value), items[i]? = some v → ∃ k t, ns[i]? = some k ∧ v = .str k t := fun i v hv => by
          have hi : i < ns.length := by rw [← hisz]; exact (Array.getElem?_eq_some_iff.mp hv).1
          obtain ⟨t, e⟩ := StrsAre.at hit (j := i) (y := ns[i]) (List.getElem?_eq_getElem hi)
          rw [Array.getElem?_toList, hv] at e
          exact ⟨ns[i], t, List.getElem?_eq_getElem hi, Option.some.inj e⟩
        refine set_update_strs ((Walks.list hh3 _ l hneI items).toS) s.heap.objs.size
          hSf ns hisz hb hval (items.size - 0) 0 _ (by omega) (Nat.zero_le _)
          ⟨⟨_, Heap.get?_push_size _ rfl, rfl, rfl⟩, (hl1.push _)⟩ ?hS0 ?hR
        case hS0 =>
          have hget : ((s.heap.push { cls := .type "set", dict := none, data := .set #[] 0 (.fresh 0 0 (!w.params.followText "set-order")) }).push { cls := .type "list_iterator", data := .fields #[.ref l, .int 0 0] }).get? s.heap.objs.size
              = some { cls := .type "set", dict := none, data := .set #[] 0 (.fresh 0 0 (!w.params.followText "set-order")) } := Heap.get?_push_of_some _ hS
          exact ⟨0, Nat.le_refl 0, setS_new_at hget⟩
        case hR =>
          intro s' c' hm hc' hS'
          obtain ⟨h', g2, d', tk', os'⟩ := s'
          have eg : g2 = s.gens := hm.gens
          have ed : d' = s.drawn := hm.drawn
          have eo : os' = s.os := hm.os
          subst eg; subst ed; subst eo
          show wpAny _ _ _ _ _ _
          refine wpAny_pure ?_
          show wpAny _ _ (ret Value.none) _ _ _
          rw [hisz] at hc'
          refine wpAny_pure ⟨rfl, h', tk', c', rfl, hS', hc', fun b o e => ?_⟩
          have hb0 : b < s.heap.objs.size := Heap.lt_size e
          have hb1 : b ≠ s.heap.objs.size := Nat.ne_of_lt hb0
          have hb2 : b ≠ (s.heap.push { cls := .type "set", dict := none, data := .set #[] 0 (.fresh 0 0 (!w.params.followText "set-order")) }).objs.size := by
            rw [Heap.size_push]; exact Nat.ne_of_lt (Nat.lt_succ_of_lt hb0)
          exact hm.heap b o (by simp only [List.mem_cons, List.mem_singleton, List.not_mem_nil, or_false, not_or]; exact ⟨hb1, hb2⟩) (Heap.get?_push_of_some _ (Heap.get?_push_of_some _ e))
      · cases r₂ with
        | error e => exact hr₂
        | ok fl₂ =>
          cases fl₂ with
          | ret r =>
            obtain ⟨rfl, h', tk, c', rfl, hS', hc', hk'⟩ := hr₂
            repeat (any_goals (first | assumption | wp_step))
            exact h _ _ _ hS' hc' hk'
          | _ => exact hr₂.elim
    | _ => exact hr.elim
end
end NL

set_option maxHeartbeats 4000000
namespace NL
open PySem PySem.Spec PyProof.Rows L2
theorem nodup_len {α : Type} [DecidableEq α] : ∀ (l D : List α), l.Nodup → (∀ x ∈ l, x ∈ D) → l.length ≤ D.length
  | [], D, _, _ => Nat.zero_le _
  | x :: l, D, h, s => by
    obtain ⟨h1, h2⟩ := List.nodup_cons.mp h
    have hx : x ∈ D := s x List.mem_cons_self
    have ih := nodup_len l (D.erase x) h2 fun y hy => (List.mem_erase_of_ne (fun e => h1 (by rw [← e]; exact hy))).mpr (s y (List.mem_cons_of_mem _ hy))
    have e := List.length_erase_of_mem hx
    have p := List.length_pos_of_mem hx
    rw [List.length_cons]
    omega
/-- not above -/
def Le (a b : Str) : Prop := ¬ (b.cps.toList < a.cps.toList)
theorem le_anti {a b : Str} (h1 : Le a b) (h2 : Le b a) : a = b := by
  have e : a.cps.toList = b.cps.toList := List.le_antisymm h1 h2
  cases a; cases b
  simp only [Str.mk.injEq]
  exact Array.toList_inj.mp e
theorem sorted_one : ∀ {xs ys : List Str}, xs.Pairwise Le → ys.Pairwise Le → xs.Nodup → ys.Nodup → (∀ k, k ∈ xs ↔ k ∈ ys) → xs = ys
  | [], [], _, _, _, _, _ => rfl
  | [], y :: ys, _, _, _, _, h => by have := (h y).mpr List.mem_cons_self; cases this
  | x :: xs, [], _, _, _, _, h => by have := (h x).mp List.mem_cons_self; cases this
  | x :: xs, y :: ys, h1, h2, n1, n2, h => by
    obtain ⟨a1, b1⟩ := List.pairwise_cons.mp h1
    obtain ⟨a2, b2⟩ := List.pairwise_cons.mp h2
    obtain ⟨c1, d1⟩ := List.nodup_cons.mp n1
    obtain ⟨c2, d2⟩ := List.nodup_cons.mp n2
    have e : x = y := by
      rcases List.mem_cons.mp ((h x).mp List.mem_cons_self) with e | e
      · exact e
      · rcases List.mem_cons.mp ((h y).mpr List.mem_cons_self) with e2 | e2
        · exact e2.symm
        · exact le_anti (a1 y e2) (a2 x e)
    subst e
    rw [sorted_one b1 b2 d1 d2 fun k => ?_]
    constructor
    · intro hk
      rcases List.mem_cons.mp ((h k).mp (List.mem_cons_of_mem _ hk)) with e | e
      · exact absurd (e ▸ hk) c1
      · exact e
    · intro hk
      rcases List.mem_cons.mp ((h k).mpr (List.mem_cons_of_mem _ hk)) with e | e
      · exact absurd (e ▸ hk) c2
      · exact e
theorem sorted_out_strP {vs : List Value} {ss : List Str} (hS : StrsAre vs ss) {xs : Array Keyed} (hp : xs.Perm (pairsOf vs)) (hs : SortedToK PyProof.Rows.strKind xs (pairsOf vs).size) :
    ∃ ss', StrsAre (xs.map (·.2)).toList ss' ∧ ss'.Perm ss ∧ ss'.Pairwise Le := by
  have hl : xs.toList.Perm (vs.zip vs) := by rw [← pairsOf_toList]; exact Array.perm_iff_toList_perm.mp hp
  have hmem : ∀ p, p ∈ xs.toList → p.1 = p.2 ∧ p.1 ∈ vs := fun p hp' => mem_zip_self (hl.mem_iff.mp hp')
  refine ⟨xs.toList.map (fun p => strOf p.1), ?_, ?_, ?_⟩
  · have e : (xs.map (·.2)).toList = xs.toList.map (·.1) := by
      rw [Array.toList_map]; exact List.map_congr_left fun p hp' => (hmem p hp').1.symm
    rw [e]
    have h1 := strsAre_map (xs.toList.map (·.1)) (by
      intro v hv
      obtain ⟨p, hp', rfl⟩ := List.mem_map.mp hv
      exact hS.all _ (hmem p hp').2)
    rwa [List.map_map] at h1
  · have h1 := hl.map (fun p => strOf p.1)
    have e2 : (vs.zip vs).map (fun p => strOf p.1) = ss := by
      have : (vs.zip vs).map (fun p => strOf p.1) = ((vs.zip vs).map Prod.fst).map strOf := by rw [List.map_map]; rfl
      rw [this, List.map_fst_zip (Nat.le_refl _), hS.strs]
    rwa [e2] at h1
  · rw [List.pairwise_iff_getElem]
    intro i j hi hj hij
    have hi' : i < xs.size := by simpa using hi
    have hj' : j < xs.size := by simpa using hj
    have h1 := hs i j (Nat.le_of_lt hij) (by rw [← hp.size_eq]; exact hj')
    obtain ⟨x, t, ex⟩ := hS.all _ (hmem xs[i] (by simp)).2
    obtain ⟨y, u, ey⟩ := hS.all _ (hmem xs[j] (by simp)).2
    rw [KK_str hi' (x := x) (t := t) (q := xs[i].2) (Prod.ext ex rfl), KK_str hj' (x := y) (t := u) (q := xs[j].2) (Prod.ext ey rfl)] at h1
    change decide (y.cps.toList < x.cps.toList) = false at h1
    simp only [List.getElem_map, Array.getElem_toList]
    rw [show strOf xs[i].1 = x by rw [ex]; rfl, show strOf xs[j].1 = y by rw [ey]; rfl]
    exact of_decide_eq_false h1
theorem strs_of : ∀ (l : List Value), (∀ v ∈ l, ∃ k tk, v = Value.str k tk) → StrsAre l (l.map fun v => keyS (0, v))
  | [], _ => .nil
  | v :: l, h => by
    obtain ⟨k, tk, rfl⟩ := h v List.mem_cons_self
    exact .cons k tk (strs_of l fun u hu => h u (List.mem_cons_of_mem _ hu))
section
variable {P : Program} {w : World} {A : Around} {E : Value → Shared → Prop} {s : Shared} {a : Addr}
theorem sorted_setS {S : Str → Bool} {n : Nat} {Q : Value → Shared → Prop} (R : SetS P w s.heap a S n) (hh : A.handled = none) (h64 : n < 64)
    (hQ : ∀ s' p (out : Array Value) (c : Nat) (ns : List Str), (∀ b o, s.heap.get? b = some o → s'.heap.get? b = some o) → s'.gens = s.gens → s'.os = s.os → s.heap.objs.size ≤ p →
      s'.heap.get? p = some (seqObj "list" out c) → StrsAre out.toList ns → ns.Pairwise Le → ns.Nodup → (∀ k, k ∈ ns ↔ S k = true) → ns.length = n → Q (.ref p) s') :
    wpAny (model P w) A (call (.builtin "sorted") [.ref a]) Q E s := by
  obtain ⟨o, es, ep, t, ho, hex, hd, g, nd, hm, hb, hf, hn, hr, hl⟩ := R
  refine Calls.call_function_entry kind_sorted plain_sorted entry_sorted (args_sorted1 _) ?_
  unfold Builtin.«sorted»
  refine wpAny_bind (m := checkCount "sorted" 1 1 _) (wpAny_pure ?_)
  refine wpAny_bind (collect_set (A := A.in1) hh ⟨o, ho, hex.1, hd⟩ hf hb hr hl fun s1 vs k1 hz g1 o1 pm => ?_)
  have hvl : vs.length = n := by rw [pm.length_eq, List.length_map, Array.length_toList]; exact hn
  have hI : StrsAre vs (vs.map fun v => keyS (0, v)) := strs_of vs fun v hv => by
    obtain ⟨e, he, q⟩ := List.mem_map.mp (pm.mem_iff.mp hv)
    obtain ⟨k, tk, h1, _⟩ := g e he
    exact ⟨k, tk, by rw [← q]; exact h1⟩
  have pk : (vs.map fun v => keyS (0, v)).Perm (es.toList.map keyS) := by
    have q := pm.map fun v => keyS (0, v)
    rw [List.map_map] at q
    exact q
  refine wpAny_bind (wpAny_newList ?_ (by rw [hvl, sizeLine_eq]; omega))
  have hoL : (s1.heap.push (seqObj "list" vs.toArray 0)).get? s1.heap.objs.size = some (seqObj "list" vs.toArray 0) := Heap.get?_push_size _ rfl
  refine wpAny_bind (wpAny_holding (wpAny_call_entry slot_list_sort ⟨_, hoL, rfl⟩ entry_list_sort (list_sort_treeK strKind_oneLt hoL hI.keysOf (fun v₁ v₂ rest e => keyKind_strs (by rw [← e]; exact hI)) (by rw [hvl]; exact h64) fun st' a1 a2 => ⟨_, rfl, ?_⟩) (args_list_sort _)))
  obtain ⟨ns', b1, b2, b3⟩ := sorted_out_strP hI a1 a2
  obtain ⟨c, hc⟩ := sortedHeap_at (vs := vs) (out := (arrOf st').map (·.2)) hoL
  have pn : ns'.Perm (es.toList.map keyS) := b2.trans pk
  refine wpAny_pure ⟨_, rfl, hQ _ s1.heap.objs.size _ c ns' (fun b u e => ?_) g1 o1 hz hc b1 b3 (pn.nodup_iff.mpr nd) (fun k => by rw [pn.mem_iff, ← hm k]) ?_⟩
  · have q := k1 b u e
    have hlt := Heap.lt_size q
    show (sortedHeap (s1.heap.push (seqObj "list" vs.toArray 0)) s1.heap.objs.size vs _).get? b = some u
    rw [sortedHeap_old (Nat.ne_of_lt hlt) (by rw [size_push']; exact Nat.lt_succ_of_lt hlt)]
    exact Heap.get?_push_of_some _ q
  · rw [pn.length_eq, List.length_map, Array.length_toList]; exact hn
end
/-! the rules -/
def SetSO (P : Program) (w : World) (a : Addr) (S : Str → Bool) (n : Nat) : HO := .ext fun h => SetS P w h a S n
theorem setSO_new {P : Program} {w : World} {H : Hp} {h : Heap} {a : Addr} {S : Str → Bool} {n : Nat} (R : SetS P w h a S n) : ObjOk P w H h a (SetSO P w a S n) := by
  have ⟨o, _, _, _, ho, _⟩ := R
  exact ⟨R, ⟨o, ho⟩, fun h1 h2 p k => SetS.at p k⟩
theorem SetS.few {P : Program} {w : World} {h : Heap} {a : Addr} {S : Str → Bool} {n : Nat} (R : SetS P w h a S n) {D : List Str} (hD : ∀ k, S k = true → k ∈ D) : n ≤ D.length := by
  obtain ⟨o, es, ep, t, ho, hex, hd, g, nd, hm, hb, hf, hn, hr, hl⟩ := R
  have q := nodup_len _ D nd fun x hx => hD x ((hm x).mpr hx)
  rw [List.length_map, Array.length_toList, hn] at q
  exact q
theorem strs_of_vals : ∀ {ks : List Str} {us : List Value}, Vals (ks.map V.str) us → StrsAre us ks
  | [], _, .nil => .nil
  | n :: k, _, .cons r t => by
    obtain ⟨tk, rfl⟩ := r
    exact .cons n tk (strs_of_vals t)
theorem vals_of_strs : ∀ {us : List Value} {ks : List Str}, StrsAre us ks → Vals (ks.map V.str) us
  | _, _, .nil => .nil
  | _, _, .cons n t h => .cons ⟨t, rfl⟩ (vals_of_strs h)
section
variable {X : Cx}
/-- set(xs), xs a list of texts -/
def rSetOfS (K : PySem.W.Frag) (P : Program) (w : World) : List V → Hp → VK → Prop := fun xs H Q => ∃ (l : Addr) (ks : List Str), xs = [V.ref l] ∧ SqL K H l (ks.map V.str) ∧ ks.length < 4000 ∧
  ∀ a c, H a = none → Q (.ref a) (upd H a (SetSO P w a (fun j => decide (j ∈ ks)) c))
theorem cr_setOfS (hc : X.calm = true) : CallR X (.type "set") (rSetOfS X.K X.prog X.w) := by
  intro pins s σ H xs us Q I r h
  obtain ⟨l, ks, rfl, hl, hf, q⟩ := h
  rw [Vals.ref1 r]
  obtain ⟨its, rv, pl, hz⟩ := I.list hl
  have hn : H s.heap.objs.size = none := I.hok.fresh (Nat.le_refl _)
  refine call_set_strs (P := X.prog) (w := X.w) ks (I.ok.hd hc) pl.isList (by simpa using strs_of_vals rv) (by unfold scanBound; omega) fun h' tk c R _ k => ?_
  exact ⟨.ref s.heap.objs.size, upd H s.heap.objs.size (SetSO X.prog X.w s.heap.objs.size _ c), I.laid (t' := tk) k (Nat.le_refl _) (setSO_new R), rfl, q _ c hn⟩
/-- sorted(set) of texts -/
def rSortedS (P : Program) (w : World) : List V → Hp → VK → Prop := fun vs H Q => ∃ (a : Addr) (S : Str → Bool) (n : Nat) (D : List Str), vs = [V.ref a] ∧ H a = some (SetSO P w a S n) ∧ (∀ k, S k = true → k ∈ D) ∧ D.length < 64 ∧
  ∀ (ns : List Str) (p : Addr), ns.Pairwise Le → ns.Nodup → (∀ k, k ∈ ns ↔ S k = true) → H p = none → Q (.ref p) (upd H p (.lst (ns.map V.str)))
theorem cr_sortedS (hc : X.calm = true) : CallR X (.builtin "sorted") (rSortedS X.prog X.w) := by
  intro pins s σ H vs us Q I r h
  obtain ⟨a, S, n, D, rfl, ha, hD, hl, q⟩ := h
  have R : SetS X.prog X.w s.heap a S n := (I.hok a _ ha).1
  have hn64 : n < 64 := Nat.lt_of_le_of_lt (R.few hD) hl
  rw [Vals.ref1 r]
  refine sorted_setS R (I.ok.hd hc) hn64 fun s' p out c ns k g o hp hg hout pw nd hm hlen => ?_
  have hlen2 : (ns.map V.str).length ≤ sizeLine := by rw [List.length_map, sizeLine_eq]; omega
  have hn : H p = none := I.hok.fresh hp
  have J : Inv X pins σ (upd H p (.lst (ns.map V.str))) { s with heap := s'.heap, gens := s'.gens, drawn := s'.drawn, toks := s'.toks } :=
    I.call (ch := []) (Un.laid k hp hn) (I.hok.laid k hp ⟨hlen2, out.toList, c, vals_of_strs hout, hg⟩) (by rw [g]; exact I.bare) (fun _ z => nomatch z)
  have e : s' = { s with heap := s'.heap, gens := s'.gens, drawn := s'.drawn, toks := s'.toks } := by
    cases s'
    cases s
    cases o
    rfl
  rw [e]
  exact ⟨.ref p, _, J, rfl, q ns p pw nd hm hn⟩
end
end NL

namespace NL
open PySem PySem.Spec PyProof.Rows L2
/-- the names of an item: without the same twice, in their order -/
def Alph (ns : List Str) (i : It) : Prop := ns.Pairwise Le ∧ ns.Nodup ∧ ∀ k, k ∈ ns ↔ k ∈ i.nms
theorem Alph.one {ns ms : List Str} {i : It} (h : Alph ns i) (g : Alph ms i) : ns = ms := sorted_one h.1 g.1 h.2.1 g.2.1 fun k => (h.2.2 k).trans (g.2.2 k).symm
theorem Alph.few {ns : List Str} {i : It} (h : Alph ns i) {xs : List Str} {B : Nat} {b : Bool} (ho : Okx xs B b i) : ns.length ≤ xs.length := nodup_len ns xs h.2.1 fun x hx => nms_in ho x ((h.2.2 x).mp hx)
theorem Alph.none {ns : List Str} {i : It} (h : Alph ns i) (e : i.nms = []) : ns = [] := by
  cases ns with
  | nil => rfl
  | cons a r =>
    have := (h.2.2 a).mp List.mem_cons_self
    rw [e] at this
    cases this
section
variable {P : Program} {w : World} {K : PySem.W.Frag} {mg : Str → Option Value} {base : Heap}
/-! ### names_in -/
def spNamesIn : Sp := fun vs H Q _ => ∃ (v : V) (i : It) (xs : List Str) (B : Nat) (b : Bool), vs = [v] ∧ ItemIn H i v ∧ Nit xs B 12 b i ∧ xs.length < 64 ∧ ∀ p ns H', Same H H' → H p = none → H' p = some (.tup (ns.map V.str)) → Alph ns i → Q (.ref p) H'
theorem ok_names_in (T : Txt K mg) : FnOk P w K mg base CX0 15 T.anames_in T.dnames_in Pnames_in spNamesIn := by
  have G_all_names := ok_all_names (P := P) (w := w) (base := base) T 12
  refine T.Fnames_in.ok scnames_in (fun vs H Q E h => ?_) (fun cdv A outer s H vs Q E hr h => ?_)
  · obtain ⟨v, i, xs, B, b, rfl, _⟩ := h
    rfl
  obtain ⟨v, i, xs, B, b, rfl, hi, hf, hx, q⟩ := h
  have ho := hf.ok
  refine ⟨_, (pss_one (ps_ret (pe_callTy call_tuple_of (by rfl) T.z_tuple (by decide +kernel) (pa_cons (pe_callB (cr_sortedS rfl) (by rfl) T.z_sorted (by decide +kernel) (pa_cons (pe_callTy (cr_setOfS rfl) (by rfl) T.z_set (by decide +kernel) (pa_cons (pe_call G_all_names (hr.mono (by omega)) (by rfl) T.m_all_names T.F_all_names.kp T.b_all_names .nil pass0 (pa_cons (pv 0) pa_nil)) pa_nil)) pa_nil)) pa_nil)))), ?_⟩
  refine ⟨_, rfl, v, i, xs, B, b, rfl, hi, hf, fun p1 H1 s1 hp1 e1 => ?_⟩
  have hl := nms_sz i
  have hz := hf.sz
  refine ⟨p1, i.nms, rfl, sqd e1, by omega, fun p2 c hp2 => ?_⟩
  refine ⟨p2, _, c, xs, rfl, upd_same, fun k hk => nms_in ho k (of_decide_eq_true hk), hx, fun ns p3 a1 a2 a3 hp3 => ?_⟩
  refine ⟨p3, _, rfl, .inl ⟨sqd upd_same, fun p4 hp4 => ?_⟩⟩
  have s4 := fun o => ((s1.trans (same_new hp2 (SetSO P w p2 (fun j => decide (j ∈ i.nms)) c))).trans (same_new hp3 o))
  exact q p4 ns _ ((s4 _).trans (same_new hp4 _)) ((s4 _).free hp4) upd_same ⟨a1, a2, fun k => by rw [a3 k, decide_eq_true_iff]⟩
end
end NL

namespace NL
open PySem PySem.Spec PyProof.Rows L2
/-! ### how often a truth stands in a list -/
def eqb (k : Bool) (v : Value) : Bool := match v with
  | .bool n => n == k
  | _ => false
theorem count_bl {k : Bool} : ∀ {bs : List Bool} {us : List Value}, Vals (bs.map V.bl) us → us.countP (eqb k) = bs.count k ∧ ∀ u ∈ us, ∃ b, u = .bool b
  | [], _, .nil => ⟨rfl, fun u h => by cases h⟩
  | b :: bs, _, .cons r t => by
    cases r
    obtain ⟨h1, h2⟩ := count_bl (k := k) t
    refine ⟨?_, fun u h => ?_⟩
    · rw [List.countP_cons, List.count_cons, h1] <;> rfl
    · rcases List.mem_cons.mp h with e | e
      · exact ⟨b, e⟩
      · exact h2 u e
section
variable {X : Cx}
def rCntB (K : PySem.W.Frag) : V → List V → Hp → VK → Prop := fun x xs H Q => ∃ (p : Addr) (bs : List Bool) (k : Bool), x = .ref p ∧ xs = [.bl k] ∧ SqL K H p (bs.map V.bl) ∧ Q (.int (bs.count k : Nat)) H
theorem mt_countB : MtR X "list.count" (rCntB X.K) := by
  intro pins s σ H x xs v us Q I rx rxs h
  obtain ⟨p, bs, k, rfl, rfl, hs, q⟩ := h
  cases rx
  obtain ⟨u, rfl, ru⟩ := rxs.one
  cases ru
  obtain ⟨its, rv, ⟨⟨cls, dd, data, sl⟩, n, ho, hc, hdn, hd⟩, hlen⟩ := I.list hs
  simp only at hc hd
  subst hc hd
  obtain ⟨hcnt, hbl⟩ := count_bl (k := k) rv
  refine call_meets PySem.F.slot_list_count ⟨_, ho, rfl⟩ PySem.F.entry_list_count (PySem.F.args_list_count_2 _ _)
    (SeqAt.list_countAt p its.toArray n dd sl (.bool k) (eqb k)) ⟨ho, fun y hy => ?_, ?_⟩
  · obtain ⟨b, rfl⟩ := hbl y (by simpa using hy)
    exact SeqAt.EqAt.bool_bool b k
  · refine ⟨.int (bs.count k : Nat), H, I.tok _, ⟨s.toks, ?_⟩, q⟩
    show Value.int ((its.toArray.toList.countP (eqb k) : Nat) : Int) s.toks = Value.int ((bs.count k : Nat) : Int) s.toks
    rw [hcnt]
end
/-! ### each name replaced by its value -/
mutual
def It.rep (ρ : Str → Int) : It → It
  | .num n => .num n
  | .name x => .num (ρ x)
  | .lit b => .lit b
  | .un w a => .un w (a.rep ρ)
  | .dm w a n => .dm w (a.rep ρ) n
  | .bin w a b => .bin w (a.rep ρ) (b.rep ρ)
  | .tri a b c => .tri (a.rep ρ) (b.rep ρ) (c.rep ρ)
  | .grp w l => .grp w (repL ρ l)
def repL (ρ : Str → Int) : List It → List It
  | [] => []
  | a :: r => a.rep ρ :: repL ρ r
end
theorem repL_map (ρ : Str → Int) : ∀ l : List It, repL ρ l = l.map (It.rep ρ)
  | [] => by rw [repL]; rfl
  | a :: r => by rw [repL, repL_map ρ r]; rfl
mutual
theorem rep_ev (ρ τ : Str → Int) : ∀ i : It, (i.rep ρ).ev τ = i.ev ρ ∧ (i.rep ρ).tr τ = i.tr ρ
  | .num n => by simp only [It.rep, It.ev, It.tr]; exact ⟨trivial, trivial⟩
  | .name x => by simp only [It.rep, It.ev, It.tr]; exact ⟨trivial, trivial⟩
  | .lit b => by simp only [It.rep, It.ev, It.tr]; exact ⟨trivial, trivial⟩
  | .un w a => by
    obtain ⟨h1, h2⟩ := rep_ev ρ τ a
    simp only [It.rep, It.ev, It.tr, h1, h2]; exact ⟨trivial, trivial⟩
  | .dm w a n => by
    obtain ⟨h1, h2⟩ := rep_ev ρ τ a
    simp only [It.rep, It.ev, It.tr, h1, h2]; exact ⟨trivial, trivial⟩
  | .bin w a b => by
    obtain ⟨h1, h2⟩ := rep_ev ρ τ a
    obtain ⟨h3, h4⟩ := rep_ev ρ τ b
    simp only [It.rep, It.ev, It.tr, h1, h2, h3, h4]; exact ⟨trivial, trivial⟩
  | .tri a b c => by
    obtain ⟨h1, h2⟩ := rep_ev ρ τ a
    obtain ⟨h3, h4⟩ := rep_ev ρ τ b
    obtain ⟨h5, h6⟩ := rep_ev ρ τ c
    simp only [It.rep, It.ev, It.tr, h1, h2, h3, h4, h5, h6]; exact ⟨trivial, trivial⟩
  | .grp w l => by
    have h := repL_tr ρ τ l
    simp only [It.rep, It.ev, It.tr, h]; exact ⟨trivial, trivial⟩
theorem repL_tr (ρ τ : Str → Int) : ∀ l : List It, trL τ (repL ρ l) = trL ρ l
  | [] => by simp only [repL, trL]
  | a :: r => by
    have h1 := (rep_ev ρ τ a).2
    have h2 := repL_tr ρ τ r
    simp only [repL, trL, h1, h2]
end
mutual
theorem rep_sz (ρ : Str → Int) : ∀ i : It, (i.rep ρ).sz = i.sz ∧ (i.rep ρ).dep = i.dep ∧ (i.rep ρ).mx = i.mx ∧ (i.rep ρ).nms = []
  | .num n => by simp only [It.rep, It.sz, It.dep, It.mx, It.nms]; exact ⟨trivial, trivial, trivial, trivial⟩
  | .name x => by simp only [It.rep, It.sz, It.dep, It.mx, It.nms]; exact ⟨trivial, trivial, trivial, trivial⟩
  | .lit b => by simp only [It.rep, It.sz, It.dep, It.mx, It.nms]; exact ⟨trivial, trivial, trivial, trivial⟩
  | .un w a => by
    obtain ⟨h1, h2, h3, h4⟩ := rep_sz ρ a
    simp only [It.rep, It.sz, It.dep, It.mx, It.nms, h1, h2, h3, h4]; exact ⟨trivial, trivial, trivial, trivial⟩
  | .dm w a n => by
    obtain ⟨h1, h2, h3, h4⟩ := rep_sz ρ a
    simp only [It.rep, It.sz, It.dep, It.mx, It.nms, h1, h2, h3, h4]; exact ⟨trivial, trivial, trivial, trivial⟩
  | .bin w a b => by
    obtain ⟨h1, h2, h3, h4⟩ := rep_sz ρ a
    obtain ⟨g1, g2, g3, g4⟩ := rep_sz ρ b
    simp only [It.rep, It.sz, It.dep, It.mx, It.nms, h1, h2, h3, h4, g1, g2, g3, g4]; exact ⟨trivial, trivial, trivial, rfl⟩
  | .tri a b c => by
    obtain ⟨h1, h2, h3, h4⟩ := rep_sz ρ a
    obtain ⟨g1, g2, g3, g4⟩ := rep_sz ρ b
    obtain ⟨k1, k2, k3, k4⟩ := rep_sz ρ c
    simp only [It.rep, It.sz, It.dep, It.mx, It.nms, h1, h2, h3, h4, g1, g2, g3, g4, k1, k2, k3, k4]; exact ⟨trivial, trivial, trivial, rfl⟩
  | .grp w l => by
    obtain ⟨h1, h2, h3, h4⟩ := repL_sz ρ l
    simp only [It.rep, It.sz, It.dep, It.mx, It.nms, h1, h2, h3, h4]; exact ⟨trivial, trivial, trivial, trivial⟩
theorem repL_sz (ρ : Str → Int) : ∀ l : List It, szL (repL ρ l) = szL l ∧ depL (repL ρ l) = depL l ∧ mxL (repL ρ l) = mxL l ∧ nmsL (repL ρ l) = []
  | [] => by simp only [repL, szL, depL, mxL, nmsL]; exact ⟨trivial, trivial, trivial, trivial⟩
  | a :: r => by
    obtain ⟨h1, h2, h3, h4⟩ := rep_sz ρ a
    obtain ⟨g1, g2, g3, g4⟩ := repL_sz ρ r
    simp only [repL, szL, depL, mxL, nmsL, h1, h2, h3, h4, g1, g2, g3, g4]; exact ⟨trivial, trivial, trivial, rfl⟩
end
theorem rep_ok {xs : List Str} {B : Nat} {ρ : Str → Int} (hρ : ∀ x ∈ xs, (ρ x).natAbs ≤ B) {b : Bool} {i : It} (h : Okx xs B b i) : Okx [] B b (i.rep ρ) := by
  induction h with
  | num h => rw [It.rep]; exact .num h
  | name h => rw [It.rep]; exact .num (hρ _ h)
  | lit => rw [It.rep]; exact .lit
  | abs h ih => rw [It.rep]; exact .abs ih
  | not h ih => rw [It.rep]; exact .not ih
  | dm hw h h1 h2 ih => rw [It.rep]; exact .dm hw ih h1 h2
  | bin hw h g ih jh => rw [It.rep]; exact .bin hw ih jh
  | cmp hw h g ih jh => rw [It.rep]; exact .cmp hw ih jh
  | tri h g l ih jh lh => rw [It.rep]; exact .tri ih jh lh
  | grp hw hl h ih =>
    rw [It.rep, repL_map]
    refine .grp hw (by rw [List.length_map]; exact hl) fun j hj => ?_
    obtain ⟨i, hi, rfl⟩ := List.mem_map.mp hj
    exact ih i hi
theorem rep_kids (ρ : Str → Int) (i : It) : (i.rep ρ).kids = i.kids.map (It.rep ρ) := by
  cases i <;> simp [It.rep, It.kids, repL_map]
end NL

namespace NL
open PySem PySem.Spec PyProof.Rows L2
theorem cut_head (x : V) (r : List V) : cutV (x :: r) none (some 1) = [x] := by
  unfold cutV
  rw [show HT.sIx (x :: r).length (x :: r).length (some 1) = min 1 (x :: r).length from HT.sIx_nat (x :: r).length _ 1, HT.sIx_none]
  rw [show min 1 (x :: r).length = 1 by rw [List.length_cons]; omega]
  rfl
theorem not_head (x y : V) (r : List V) : ¬ (HT.sIx (x :: y :: r).length 0 none = 0 ∧ HT.sIx (x :: y :: r).length (x :: y :: r).length (some 1) = (x :: y :: r).length) := by
  rintro ⟨_, h⟩
  rw [show HT.sIx (x :: y :: r).length (x :: y :: r).length (some 1) = min 1 (x :: y :: r).length from HT.sIx_nat (x :: y :: r).length _ 1, List.length_cons, List.length_cons] at h
  omega
theorem len1 {us : List V} (h : us.length = 1) : ∃ x, us = [x] := by
  match us, h with
  | [x], _ => exact ⟨x, rfl⟩
theorem len2 {us : List V} (h : us.length = 2) : ∃ x y, us = [x, y] := by
  match us, h with
  | [x, y], _ => exact ⟨x, y, rfl⟩
theorem len3 {us : List V} (h : us.length = 3) : ∃ x y z, us = [x, y, z] := by
  match us, h with
  | [x, y, z], _ => exact ⟨x, y, z, rfl⟩
/-- the parts, replaced, behind the word -/
theorem rest_in {H : Hp} {ρ : Str → Int} {i : It} {us : List V} {p : Addr} (h3 : i.cls = 3) (hk : Kids H (i.kids.map (It.rep ρ)) us) (e : H p = some (.tup (.str i.word :: us))) : ItemIn H (i.rep ρ) (.ref p) := by
  have hl := hk.1
  cases i with
  | num _ => cases h3
  | name _ => cases h3
  | lit _ => cases h3
  | dm _ _ _ => cases h3
  | grp _ _ => cases h3
  | un w a =>
    obtain ⟨x, rfl⟩ := len1 hl
    rw [It.rep]
    exact .un e (hk.2 0 _ _ rfl rfl)
  | bin w a b =>
    obtain ⟨x, y, rfl⟩ := len2 hl
    rw [It.rep]
    exact .bin e (hk.2 0 _ _ rfl rfl) (hk.2 1 _ _ rfl rfl)
  | tri a b c =>
    obtain ⟨x, y, z, rfl⟩ := len3 hl
    rw [It.rep]
    exact .tri e (hk.2 0 _ _ rfl rfl) (hk.2 1 _ _ rfl rfl) (hk.2 2 _ _ rfl rfl)
theorem small1000' {n : Nat} (h : n ≤ 1000) : n ≤ sizeLine := Nat.le_trans h (by decide)
section
variable {P : Program} {w : World} {K : PySem.W.Frag} {mg : Str → Option Value} {base : Heap}
/-! ### _law_replaced -/
def spRep (n : Nat) : Sp := fun vs H Q _ => ∃ (v : V) (dv : Addr) (i : It) (xs : List Str) (B : Nat) (b : Bool) (ρ : Str → Int), vs = [v, .ref dv] ∧ ItemIn H i v ∧ Okx xs B b i ∧ i.dep ≤ n ∧ EnvIn H dv ρ xs ∧ ∀ u H', Same H H' → ItemIn H' (i.rep ρ) u → Q u H'
theorem no_rep {fa : Addr} {fd : FuncData} {ps : List Str} {c : Nat} : FnOk P w K mg base CX0 c fa fd ps (spRep 0) := by
  have no : ∀ vs H Q E, ¬ spRep 0 vs H Q E := fun vs H Q E ⟨v, dv, i, xs, B, b, ρ, _, _, _, h, _⟩ => by
    have := dep_pos i
    omega
  exact ⟨fun vs H Q E h => absurd h (no vs H Q E), fun A outer s H args us vs Q E _ _ _ _ h => absurd h (no vs H Q E)⟩
theorem ok_law_replaced (T : Txt K mg) : ∀ n : Nat, FnOk P w K mg base CX0 (n + 1) T.a_law_replaced T.d_law_replaced P_law_replaced (spRep n)
  | 0 => no_rep
  | n + 1 => by
    have G_law_replaced := ok_law_replaced T n
    refine T.F_law_replaced.ok sc_law_replaced (fun vs H Q E h => ?_) (fun cdv A outer s H vs Q E hr h => ?_)
    · obtain ⟨v, dv, i, xs, B, b, ρ, rfl, _⟩ := h
      rfl
    obtain ⟨v, dv, i, xs, B, b, ρ, rfl, hi, ho, hd, en, q⟩ := h
    obtain ⟨a, rfl⟩ := hi.ref
    refine ⟨_, (pss_cons (ps_if (pt_cmpR op_eq (pe_ix ix_tup (pv 0) pe_int (fun _ _ => rfl)) pe_str (nomark _))
    (pss_one (ps_ret (pe_tup (pa_cons pe_str (pa_cons (pe_dget (hu_of hr) (pv 1) (pe_ix ix_tup (pv 0) pe_int (fun _ _ => rfl)) (fun _ _ => rfl)) pa_nil)))))
    pss_nil)
    (pss_cons (ps_if (PW.pt (pw_or (pt_cmpR op_eq (pe_ix ix_tup (pv 0) pe_int (fun _ _ => rfl)) pe_str (nomark _)) (pw_or (pt_cmpR op_eq (pe_ix ix_tup (pv 0) pe_int (fun _ _ => rfl)) pe_str (nomark _)) (pw_or1 (pt_cmpR op_eq (pe_ix ix_tup (pv 0) pe_int (fun _ _ => rfl)) pe_str (nomark _))))))
    (pss_one (ps_ret (pv 0)))
    pss_nil)
    (pss_cons (ps_if (PW.pt (pw_or (pt_cmpR op_eq (pe_ix ix_tup (pv 0) pe_int (fun _ _ => rfl)) pe_str (nomark _)) (pw_or1 (pt_cmpR op_eq (pe_ix ix_tup (pv 0) pe_int (fun _ _ => rfl)) pe_str (nomark _)))))
    (pss_one (ps_ret (pe_tup (pa_cons (pe_ix ix_tup (pv 0) pe_int (fun _ _ => rfl)) (pa_cons (pe_callTy call_tuple_of (by rfl) T.z_tuple (by decide +kernel) (pa_cons (pe_lc (own := [("part", 2)]) (g := (gName 2)) (tt := tYes) rfl sc_law_replaced.nd (pi_tup (pe_ix ix_tup (pv 0) pe_int (fun _ _ => rfl))) (blkOk_by (N := N_law_replaced) (sc := defScope s_law_replaced) (by decide +kernel)) (fun _ _ _ _ _ => (pg_name (i := 2) sc_law_replaced.nd rfl (Or.inl rfl))) (fun _ _ _ _ _ => pts_nil) (fun _ _ _ _ _ => (pe_call G_law_replaced (hr.mono (by omega)) (by rfl) T.m_law_replaced T.F_law_replaced.kp T.b_law_replaced .nil pass0 (pa_cons (pv 2) (pa_cons (pv 1) pa_nil))))) pa_nil)) pa_nil)))))
    pss_nil)
    (pss_cons (ps_if (PW.pt (pw_or (pt_cmpR op_eq (pe_ix ix_tup (pv 0) pe_int (fun _ _ => rfl)) pe_str (nomark _)) (pw_or1 (pt_cmpR op_eq (pe_ix ix_tup (pv 0) pe_int (fun _ _ => rfl)) pe_str (nomark _)))))
    (pss_one (ps_ret (pe_tup (pa_cons (pe_ix ix_tup (pv 0) pe_int (fun _ _ => rfl)) (pa_cons (pe_call G_law_replaced (hr.mono (by omega)) (by rfl) T.m_law_replaced T.F_law_replaced.kp T.b_law_replaced .nil pass0 (pa_cons (pe_ix ix_tup (pv 0) pe_int (fun _ _ => rfl)) (pa_cons (pv 1) pa_nil))) (pa_cons (pe_ix ix_tup (pv 0) pe_int (fun _ _ => rfl)) pa_nil))))))
    pss_nil)
    (pss_one (ps_ret (pe_op op_catA (pe_slice sl_tup (pv 0) po_none (po_some pe_int)) (pe_callTy call_tuple_of (by rfl) T.z_tuple (by decide +kernel) (pa_cons (pe_lc (own := [("part", 2)]) (g := (gName 2)) (tt := tYes) rfl sc_law_replaced.nd (pi_tup (pe_slice sl_tup (pv 0) (po_some pe_int) po_none)) (blkOk_by (N := N_law_replaced) (sc := defScope s_law_replaced) (by decide +kernel)) (fun _ _ _ _ _ => (pg_name (i := 2) sc_law_replaced.nd rfl (Or.inl rfl))) (fun _ _ _ _ _ => pts_nil) (fun _ _ _ _ _ => (pe_call G_law_replaced (hr.mono (by omega)) (by rfl) T.m_law_replaced T.F_law_replaced.kp T.b_law_replaced .nil pass0 (pa_cons (pv 2) (pa_cons (pv 1) pa_nil))))) pa_nil))))))))), ?_⟩
    have kid : ∀ {j : It}, j ∈ i.kids → ∃ b', Okx xs B b' j ∧ j.dep ≤ n := fun {j} hj => by
      obtain ⟨b', h1⟩ := kids_ok ho j hj
      have h2 := depL_in hj
      have h3 := @kids_dep i
      exact ⟨b', h1, by omega⟩
    have hkl := kids_len ho
    have hi0 := hi
    have ho0 := ho
    cases hi with
    | name e =>
      refine ⟨_, rfl, a, _, 0, _, rfl, rfl, sqt e, atI0, rfl, _, rfl, ?_⟩
      refine ifT (by first | decide +kernel | (rw [strE]; exact decide_eq_true rfl) | (rw [strE]; refine decide_eq_false ?_; simp only [It.word]; decide +kernel)) ?_
      cases ho with
      | name hx =>
        refine ⟨_, rfl, _, rfl, a, _, 1, _, rfl, rfl, sqt e, atI1, dv, _, rfl, dgetE en hx, (Nat.le_of_ble_eq_true rfl), fun p hp => ?_⟩
        exact q _ _ (same_new hp _) (by rw [It.rep]; exact .num upd_same)
    | num e =>
      refine ⟨_, rfl, a, _, 0, _, rfl, rfl, sqt e, atI0, rfl, _, rfl, ?_⟩
      refine ifF (by first | decide +kernel | (rw [strE]; exact decide_eq_true rfl) | (rw [strE]; refine decide_eq_false ?_; simp only [It.word]; decide +kernel)) ?_
      refine ⟨_, rfl, a, _, 0, _, rfl, rfl, sqt e, atI0, rfl, _, rfl, ?_⟩
      refine ifT (by first | decide +kernel | (rw [strE]; exact decide_eq_true rfl) | (rw [strE]; refine decide_eq_false ?_; simp only [It.word]; decide +kernel)) (iteT ⟨_, rfl, q _ _ (Same.refl H) (by rw [It.rep]; exact .num e)⟩)
    | lit e =>
      rename_i bb
      cases bb with
      | true =>
        refine ⟨_, rfl, a, _, 0, _, rfl, rfl, sqt e, atI0, rfl, _, rfl, ?_⟩
        refine ifF (by first | decide +kernel | (rw [strE]; exact decide_eq_true rfl) | (rw [strE]; refine decide_eq_false ?_; simp only [It.word]; decide +kernel)) ?_
        refine ⟨_, rfl, a, _, 0, _, rfl, rfl, sqt e, atI0, rfl, _, rfl, ?_⟩
        refine ifF (by first | decide +kernel | (rw [strE]; exact decide_eq_true rfl) | (rw [strE]; refine decide_eq_false ?_; simp only [It.word]; decide +kernel)) ?_
        refine ⟨_, rfl, a, _, 0, _, rfl, rfl, sqt e, atI0, rfl, _, rfl, ?_⟩
        refine ifT (by first | decide +kernel | (rw [strE]; exact decide_eq_true rfl) | (rw [strE]; refine decide_eq_false ?_; simp only [It.word]; decide +kernel)) (iteT ⟨_, rfl, q _ _ (Same.refl H) (by rw [It.rep]; exact .lit e)⟩)
      | false =>
        refine ⟨_, rfl, a, _, 0, _, rfl, rfl, sqt e, atI0, rfl, _, rfl, ?_⟩
        refine ifF (by first | decide +kernel | (rw [strE]; exact decide_eq_true rfl) | (rw [strE]; refine decide_eq_false ?_; simp only [It.word]; decide +kernel)) ?_
        refine ⟨_, rfl, a, _, 0, _, rfl, rfl, sqt e, atI0, rfl, _, rfl, ?_⟩
        refine ifF (by first | decide +kernel | (rw [strE]; exact decide_eq_true rfl) | (rw [strE]; refine decide_eq_false ?_; simp only [It.word]; decide +kernel)) ?_
        refine ⟨_, rfl, a, _, 0, _, rfl, rfl, sqt e, atI0, rfl, _, rfl, ?_⟩
        refine ifF (by first | decide +kernel | (rw [strE]; exact decide_eq_true rfl) | (rw [strE]; refine decide_eq_false ?_; simp only [It.word]; decide +kernel)) ?_
        refine ⟨_, rfl, a, _, 0, _, rfl, rfl, sqt e, atI0, rfl, _, rfl, ?_⟩
        refine ifT (by first | decide +kernel | (rw [strE]; exact decide_eq_true rfl) | (rw [strE]; refine decide_eq_false ?_; simp only [It.word]; decide +kernel)) ⟨_, rfl, q _ _ (Same.refl H) (by rw [It.rep]; exact .lit e)⟩
    | dm e g =>
      rename_i ww j m x0
      cases ho with
      | dm hw h1 h2 h3 =>
        obtain ⟨b', hj, hjd⟩ := kid (j := j) (by simp [It.kids])
        simp only [List.mem_cons, List.not_mem_nil, or_false] at hw
        rcases hw with rfl | rfl
        · skip
          refine ⟨_, rfl, a, _, 0, _, rfl, rfl, sqt e, atI0, rfl, _, rfl, ?_⟩
          refine ifF (by first | decide +kernel | (rw [strE]; exact decide_eq_true rfl) | (rw [strE]; refine decide_eq_false ?_; simp only [It.word]; decide +kernel)) ?_
          refine ⟨_, rfl, a, _, 0, _, rfl, rfl, sqt e, atI0, rfl, _, rfl, ?_⟩
          refine ifF (by first | decide +kernel | (rw [strE]; exact decide_eq_true rfl) | (rw [strE]; refine decide_eq_false ?_; simp only [It.word]; decide +kernel)) ?_
          refine ⟨_, rfl, a, _, 0, _, rfl, rfl, sqt e, atI0, rfl, _, rfl, ?_⟩
          refine ifF (by first | decide +kernel | (rw [strE]; exact decide_eq_true rfl) | (rw [strE]; refine decide_eq_false ?_; simp only [It.word]; decide +kernel)) ?_
          refine ⟨_, rfl, a, _, 0, _, rfl, rfl, sqt e, atI0, rfl, _, rfl, ?_⟩
          refine ifF (by first | decide +kernel | (rw [strE]; exact decide_eq_true rfl) | (rw [strE]; refine decide_eq_false ?_; simp only [It.word]; decide +kernel)) ?_
          refine ⟨_, rfl, a, _, 0, _, rfl, rfl, sqt e, atI0, rfl, _, rfl, ?_⟩
          refine ifF (by first | decide +kernel | (rw [strE]; exact decide_eq_true rfl) | (rw [strE]; refine decide_eq_false ?_; simp only [It.word]; decide +kernel)) ?_
          refine ⟨_, rfl, a, _, 0, _, rfl, rfl, sqt e, atI0, rfl, _, rfl, ?_⟩
          refine ifF (by first | decide +kernel | (rw [strE]; exact decide_eq_true rfl) | (rw [strE]; refine decide_eq_false ?_; simp only [It.word]; decide +kernel)) ?_
          refine ⟨_, rfl, a, _, 0, _, rfl, rfl, sqt e, atI0, rfl, _, rfl, ?_⟩
          refine ifT (by first | decide +kernel | (rw [strE]; exact decide_eq_true rfl) | (rw [strE]; refine decide_eq_false ?_; simp only [It.word]; decide +kernel)) (iteT ⟨_, rfl, a, _, 0, _, rfl, rfl, sqt e, atI0, _, rfl, a, _, 1, _, rfl, rfl, sqt e, atI1, _, rfl, _, dv, j, xs, B, b', ρ, rfl, g, hj, hjd, en, fun u H1 s1 hu => ⟨_, rfl, a, _, 2, _, rfl, rfl, sqt (s1 _ _ e), atI2, (Nat.le_of_ble_eq_true rfl), fun p hp => q _ _ (s1.trans (same_new hp _)) (by rw [It.rep]; exact .dm upd_same (hu.mono (Tp.same (same_new hp _))))⟩⟩)
        · skip
          refine ⟨_, rfl, a, _, 0, _, rfl, rfl, sqt e, atI0, rfl, _, rfl, ?_⟩
          refine ifF (by first | decide +kernel | (rw [strE]; exact decide_eq_true rfl) | (rw [strE]; refine decide_eq_false ?_; simp only [It.word]; decide +kernel)) ?_
          refine ⟨_, rfl, a, _, 0, _, rfl, rfl, sqt e, atI0, rfl, _, rfl, ?_⟩
          refine ifF (by first | decide +kernel | (rw [strE]; exact decide_eq_true rfl) | (rw [strE]; refine decide_eq_false ?_; simp only [It.word]; decide +kernel)) ?_
          refine ⟨_, rfl, a, _, 0, _, rfl, rfl, sqt e, atI0, rfl, _, rfl, ?_⟩
          refine ifF (by first | decide +kernel | (rw [strE]; exact decide_eq_true rfl) | (rw [strE]; refine decide_eq_false ?_; simp only [It.word]; decide +kernel)) ?_
          refine ⟨_, rfl, a, _, 0, _, rfl, rfl, sqt e, atI0, rfl, _, rfl, ?_⟩
          refine ifF (by first | decide +kernel | (rw [strE]; exact decide_eq_true rfl) | (rw [strE]; refine decide_eq_false ?_; simp only [It.word]; decide +kernel)) ?_
          refine ⟨_, rfl, a, _, 0, _, rfl, rfl, sqt e, atI0, rfl, _, rfl, ?_⟩
          refine ifF (by first | decide +kernel | (rw [strE]; exact decide_eq_true rfl) | (rw [strE]; refine decide_eq_false ?_; simp only [It.word]; decide +kernel)) ?_
          refine ⟨_, rfl, a, _, 0, _, rfl, rfl, sqt e, atI0, rfl, _, rfl, ?_⟩
          refine ifF (by first | decide +kernel | (rw [strE]; exact decide_eq_true rfl) | (rw [strE]; refine decide_eq_false ?_; simp only [It.word]; decide +kernel)) ?_
          refine ⟨_, rfl, a, _, 0, _, rfl, rfl, sqt e, atI0, rfl, _, rfl, ?_⟩
          refine ifF (by first | decide +kernel | (rw [strE]; exact decide_eq_true rfl) | (rw [strE]; refine decide_eq_false ?_; simp only [It.word]; decide +kernel)) ?_
          refine ⟨_, rfl, a, _, 0, _, rfl, rfl, sqt e, atI0, rfl, _, rfl, ?_⟩
          refine ifT (by first | decide +kernel | (rw [strE]; exact decide_eq_true rfl) | (rw [strE]; refine decide_eq_false ?_; simp only [It.word]; decide +kernel)) ⟨_, rfl, a, _, 0, _, rfl, rfl, sqt e, atI0, _, rfl, a, _, 1, _, rfl, rfl, sqt e, atI1, _, rfl, _, dv, j, xs, B, b', ρ, rfl, g, hj, hjd, en, fun u H1 s1 hu => ⟨_, rfl, a, _, 2, _, rfl, rfl, sqt (s1 _ _ e), atI2, (Nat.le_of_ble_eq_true rfl), fun p hp => q _ _ (s1.trans (same_new hp _)) (by rw [It.rep]; exact .dm upd_same (hu.mono (Tp.same (same_new hp _))))⟩⟩
    | grp e e2 hlen hk =>
      rename_i ww l bb ys
      have hkids : Kids H l ys := ⟨hlen, hk⟩
      cases ho with
      | grp hw hl hall =>
        simp only [List.mem_cons, List.not_mem_nil, or_false] at hw
        rcases hw with rfl | rfl
        · skip
          refine ⟨_, rfl, a, _, 0, _, rfl, rfl, sqt e, atI0, rfl, _, rfl, ?_⟩
          refine ifF (by first | decide +kernel | (rw [strE]; exact decide_eq_true rfl) | (rw [strE]; refine decide_eq_false ?_; simp only [It.word]; decide +kernel)) ?_
          refine ⟨_, rfl, a, _, 0, _, rfl, rfl, sqt e, atI0, rfl, _, rfl, ?_⟩
          refine ifF (by first | decide +kernel | (rw [strE]; exact decide_eq_true rfl) | (rw [strE]; refine decide_eq_false ?_; simp only [It.word]; decide +kernel)) ?_
          refine ⟨_, rfl, a, _, 0, _, rfl, rfl, sqt e, atI0, rfl, _, rfl, ?_⟩
          refine ifF (by first | decide +kernel | (rw [strE]; exact decide_eq_true rfl) | (rw [strE]; refine decide_eq_false ?_; simp only [It.word]; decide +kernel)) ?_
          refine ⟨_, rfl, a, _, 0, _, rfl, rfl, sqt e, atI0, rfl, _, rfl, ?_⟩
          refine ifF (by first | decide +kernel | (rw [strE]; exact decide_eq_true rfl) | (rw [strE]; refine decide_eq_false ?_; simp only [It.word]; decide +kernel)) ?_
          refine ⟨_, rfl, a, _, 0, _, rfl, rfl, sqt e, atI0, rfl, _, rfl, ?_⟩
          refine ifT (by first | decide +kernel | (rw [strE]; exact decide_eq_true rfl) | (rw [strE]; refine decide_eq_false ?_; simp only [It.word]; decide +kernel)) (iteT ?_)
          refine ⟨_, rfl, a, _, 0, _, rfl, rfl, sqt e, atI0, _, rfl, a, _, 1, _, rfl, rfl, sqt e, atI1, bb, rfl, ⟨_, sqt e2⟩, fun D hD => ?_⟩
          refine lc_tup (K := K) (a := bb) (xs := ys) (fun (k : Nat) (H' : Hp) => ∃ us : List V, Same H H' ∧ H' D = some (.lst us) ∧ Kids H' ((l.take k).map (It.rep ρ)) us) ?_ ?_ ?_ ?_
          · exact ⟨[], same_new hD _, upd_same, by rw [List.take_zero]; exact kids0⟩
          · rintro k H' _ ⟨us, s3, _⟩
            exact sqt (s3 _ _ e2)
          · rintro k x H' hx ⟨us, s3, e3, hk3⟩
            obtain ⟨u, hu, hin, hmem⟩ := hkids.get hx
            obtain ⟨b', hj, hjd⟩ := kid hmem
            refine ⟨rfl, yes_if ?_⟩
            refine ⟨_, rfl, _, rfl, _, dv, u, xs, B, b', ρ, rfl, hin.mono (Tp.same s3), hj, hjd, en.same s3, fun y H4 s4 hy => ?_⟩
            have e4 := s4 _ _ e3
            refine ⟨_, e4, ?_, us ++ [y], same_put (s3.trans s4) hD, upd_same, ?_⟩
            · have := hk3.1
              rw [List.length_map, List.length_take] at this
              exact small1000 (by omega)
            · rw [List.take_add_one, hu, List.map_append]
              exact Kids.snoc (hk3.mono ((Tp.same s4).trans (tp_put e4))) (hy.mono (tp_put e4))
          · rintro H3 ⟨us, s3, e3, hk3⟩
            rw [hkids.1, List.take_length] at hk3
            refine ⟨D, us, rfl, .inl ⟨sqd e3, fun tp htp => ?_⟩⟩
            refine ⟨(Nat.le_of_ble_eq_true rfl), fun rp hrp => ?_⟩
            have s5 := (same_new htp (.tup us)).trans (same_new hrp (.tup [.str "all", .ref tp]))
            refine q _ _ (s3.trans s5) ?_
            rw [It.rep, repL_map]
            have hk5 := hk3.mono (Tp.same s5)
            exact .grp upd_same (same_new hrp _ _ _ upd_same) hk5.1 hk5.2
        · skip
          refine ⟨_, rfl, a, _, 0, _, rfl, rfl, sqt e, atI0, rfl, _, rfl, ?_⟩
          refine ifF (by first | decide +kernel | (rw [strE]; exact decide_eq_true rfl) | (rw [strE]; refine decide_eq_false ?_; simp only [It.word]; decide +kernel)) ?_
          refine ⟨_, rfl, a, _, 0, _, rfl, rfl, sqt e, atI0, rfl, _, rfl, ?_⟩
          refine ifF (by first | decide +kernel | (rw [strE]; exact decide_eq_true rfl) | (rw [strE]; refine decide_eq_false ?_; simp only [It.word]; decide +kernel)) ?_
          refine ⟨_, rfl, a, _, 0, _, rfl, rfl, sqt e, atI0, rfl, _, rfl, ?_⟩
          refine ifF (by first | decide +kernel | (rw [strE]; exact decide_eq_true rfl) | (rw [strE]; refine decide_eq_false ?_; simp only [It.word]; decide +kernel)) ?_
          refine ⟨_, rfl, a, _, 0, _, rfl, rfl, sqt e, atI0, rfl, _, rfl, ?_⟩
          refine ifF (by first | decide +kernel | (rw [strE]; exact decide_eq_true rfl) | (rw [strE]; refine decide_eq_false ?_; simp only [It.word]; decide +kernel)) ?_
          refine ⟨_, rfl, a, _, 0, _, rfl, rfl, sqt e, atI0, rfl, _, rfl, ?_⟩
          refine ifF (by first | decide +kernel | (rw [strE]; exact decide_eq_true rfl) | (rw [strE]; refine decide_eq_false ?_; simp only [It.word]; decide +kernel)) ?_
          refine ⟨_, rfl, a, _, 0, _, rfl, rfl, sqt e, atI0, rfl, _, rfl, ?_⟩
          refine ifT (by first | decide +kernel | (rw [strE]; exact decide_eq_true rfl) | (rw [strE]; refine decide_eq_false ?_; simp only [It.word]; decide +kernel)) ?_
          refine ⟨_, rfl, a, _, 0, _, rfl, rfl, sqt e, atI0, _, rfl, a, _, 1, _, rfl, rfl, sqt e, atI1, bb, rfl, ⟨_, sqt e2⟩, fun D hD => ?_⟩
          refine lc_tup (K := K) (a := bb) (xs := ys) (fun (k : Nat) (H' : Hp) => ∃ us : List V, Same H H' ∧ H' D = some (.lst us) ∧ Kids H' ((l.take k).map (It.rep ρ)) us) ?_ ?_ ?_ ?_
          · exact ⟨[], same_new hD _, upd_same, by rw [List.take_zero]; exact kids0⟩
          · rintro k H' _ ⟨us, s3, _⟩
            exact sqt (s3 _ _ e2)
          · rintro k x H' hx ⟨us, s3, e3, hk3⟩
            obtain ⟨u, hu, hin, hmem⟩ := hkids.get hx
            obtain ⟨b', hj, hjd⟩ := kid hmem
            refine ⟨rfl, yes_if ?_⟩
            refine ⟨_, rfl, _, rfl, _, dv, u, xs, B, b', ρ, rfl, hin.mono (Tp.same s3), hj, hjd, en.same s3, fun y H4 s4 hy => ?_⟩
            have e4 := s4 _ _ e3
            refine ⟨_, e4, ?_, us ++ [y], same_put (s3.trans s4) hD, upd_same, ?_⟩
            · have := hk3.1
              rw [List.length_map, List.length_take] at this
              exact small1000 (by omega)
            · rw [List.take_add_one, hu, List.map_append]
              exact Kids.snoc (hk3.mono ((Tp.same s4).trans (tp_put e4))) (hy.mono (tp_put e4))
          · rintro H3 ⟨us, s3, e3, hk3⟩
            rw [hkids.1, List.take_length] at hk3
            refine ⟨D, us, rfl, .inl ⟨sqd e3, fun tp htp => ?_⟩⟩
            refine ⟨(Nat.le_of_ble_eq_true rfl), fun rp hrp => ?_⟩
            have s5 := (same_new htp (.tup us)).trans (same_new hrp (.tup [.str "any", .ref tp]))
            refine q _ _ (s3.trans s5) ?_
            rw [It.rep, repL_map]
            have hk5 := hk3.mono (Tp.same s5)
            exact .grp upd_same (same_new hrp _ _ _ upd_same) hk5.1 hk5.2
    | un e g =>
      rename_i ww j x
      have hkids : Kids H [j] [x] := kids1 g
      cases ho with
      | abs h1 =>
        refine ⟨_, rfl, a, _, 0, _, rfl, rfl, sqt e, atI0, rfl, _, rfl, ?_⟩
        refine ifF (by first | decide +kernel | (rw [strE]; exact decide_eq_true rfl) | (rw [strE]; refine decide_eq_false ?_; simp only [It.word]; decide +kernel)) ?_
        refine ⟨_, rfl, a, _, 0, _, rfl, rfl, sqt e, atI0, rfl, _, rfl, ?_⟩
        refine ifF (by first | decide +kernel | (rw [strE]; exact decide_eq_true rfl) | (rw [strE]; refine decide_eq_false ?_; simp only [It.word]; decide +kernel)) ?_
        refine ⟨_, rfl, a, _, 0, _, rfl, rfl, sqt e, atI0, rfl, _, rfl, ?_⟩
        refine ifF (by first | decide +kernel | (rw [strE]; exact decide_eq_true rfl) | (rw [strE]; refine decide_eq_false ?_; simp only [It.word]; decide +kernel)) ?_
        refine ⟨_, rfl, a, _, 0, _, rfl, rfl, sqt e, atI0, rfl, _, rfl, ?_⟩
        refine ifF (by first | decide +kernel | (rw [strE]; exact decide_eq_true rfl) | (rw [strE]; refine decide_eq_false ?_; simp only [It.word]; decide +kernel)) ?_
        refine ⟨_, rfl, a, _, 0, _, rfl, rfl, sqt e, atI0, rfl, _, rfl, ?_⟩
        refine ifF (by first | decide +kernel | (rw [strE]; exact decide_eq_true rfl) | (rw [strE]; refine decide_eq_false ?_; simp only [It.word]; decide +kernel)) ?_
        refine ⟨_, rfl, a, _, 0, _, rfl, rfl, sqt e, atI0, rfl, _, rfl, ?_⟩
        refine ifF (by first | decide +kernel | (rw [strE]; exact decide_eq_true rfl) | (rw [strE]; refine decide_eq_false ?_; simp only [It.word]; decide +kernel)) ?_
        refine ⟨_, rfl, a, _, 0, _, rfl, rfl, sqt e, atI0, rfl, _, rfl, ?_⟩
        refine ifF (by first | decide +kernel | (rw [strE]; exact decide_eq_true rfl) | (rw [strE]; refine decide_eq_false ?_; simp only [It.word]; decide +kernel)) ?_
        refine ⟨_, rfl, a, _, 0, _, rfl, rfl, sqt e, atI0, rfl, _, rfl, ?_⟩
        refine ifF (by first | decide +kernel | (rw [strE]; exact decide_eq_true rfl) | (rw [strE]; refine decide_eq_false ?_; simp only [It.word]; decide +kernel)) ?_
        refine ⟨_, rfl, 1, rfl, a, _, rfl, sqt e, not_head _ _ _, fun p1 hp1 => ?_⟩
        have s1 := fun o => same_new hp1 o
        rw [cut_head]
        refine ⟨_, rfl, 1, rfl, a, _, rfl, sqt (s1 _ _ _ e), not_whole _ _ _, fun p2 hp2 => ?_⟩
        have s2 := fun o => (s1 (.tup [.str "abs"])).trans (same_new hp2 o)
        rw [cut_tail]
        refine ⟨p2, rfl, ⟨_, sqt upd_same⟩, fun D hD => ?_⟩
        refine lc_tup (K := K) (a := p2) (xs := [x]) (fun (k : Nat) (H' : Hp) => ∃ us : List V, Same (upd (upd H p1 (.tup [.str "abs"])) p2 (.tup [x])) H' ∧ H' D = some (.lst us) ∧ Kids H' ((([j]).take k).map (It.rep ρ)) us) ?_ ?_ ?_ ?_
        · exact ⟨[], same_new hD _, upd_same, by rw [List.take_zero]; exact kids0⟩
        · rintro k H' _ ⟨us, s3, _⟩
          exact sqt (s3 _ _ upd_same)
        · rintro k x H' hx ⟨us, s3, e3, hk3⟩
          obtain ⟨u, hu, hin, hmem⟩ := hkids.get hx
          obtain ⟨b', hj, hjd⟩ := kid hmem
          have s03 := (s2 _).trans s3
          refine ⟨rfl, yes_if ?_⟩
          refine ⟨_, rfl, _, rfl, _, dv, u, xs, B, b', ρ, rfl, hin.mono (Tp.same s03), hj, hjd, en.same s03, fun y H4 s4 hy => ?_⟩
          have e4 := s4 _ _ e3
          refine ⟨_, e4, ?_, us ++ [y], same_put (s3.trans s4) hD, upd_same, ?_⟩
          · have := hk3.1
            rw [List.length_map, List.length_take] at this
            have h3 : ([j]).length ≤ 3 := (Nat.le_of_ble_eq_true rfl)
            exact small1000 (by omega)
          · rw [List.take_add_one, hu, List.map_append]
            exact Kids.snoc (hk3.mono ((Tp.same s4).trans (tp_put e4))) (hy.mono (tp_put e4))
        · rintro H3 ⟨us, s3, e3, hk3⟩
          rw [hkids.1, List.take_length] at hk3
          have hul : us.length = ([j]).length := by rw [hk3.1, List.length_map]
          have hll : ([j]).length ≤ 3 := (Nat.le_of_ble_eq_true rfl)
          have hl1 : 1 ≤ ([j]).length := (Nat.le_of_ble_eq_true rfl)
          refine ⟨D, us, rfl, .inl ⟨sqd e3, fun tp htp => ?_⟩⟩
          have s03 := (s2 _).trans s3
          have e1 := (same_new htp (.tup us)) _ _ (s3 _ _ ((same_new hp2 (.tup [x])) _ _ (upd_same (H := H) (a := p1) (o := .tup [.str "abs"]))))
          refine ⟨p1, tp, [.str "abs"], us, rfl, rfl, sqt e1, sqt upd_same, small1000' (show 1 + us.length ≤ 1000 by omega), fun h => by simp at h, fun _ h => by rw [h] at hul; simp at hul, fun _ _ rp hrp => ?_⟩
          have s5 := (same_new htp (.tup us)).trans (same_new hrp (.tup ([.str "abs"] ++ us)))
          refine q _ _ (s03.trans s5) ?_
          exact rest_in (i := .un "abs" j) rfl (hk3.mono (Tp.same s5)) upd_same
      | not h1 =>
        refine ⟨_, rfl, a, _, 0, _, rfl, rfl, sqt e, atI0, rfl, _, rfl, ?_⟩
        refine ifF (by first | decide +kernel | (rw [strE]; exact decide_eq_true rfl) | (rw [strE]; refine decide_eq_false ?_; simp only [It.word]; decide +kernel)) ?_
        refine ⟨_, rfl, a, _, 0, _, rfl, rfl, sqt e, atI0, rfl, _, rfl, ?_⟩
        refine ifF (by first | decide +kernel | (rw [strE]; exact decide_eq_true rfl) | (rw [strE]; refine decide_eq_false ?_; simp only [It.word]; decide +kernel)) ?_
        refine ⟨_, rfl, a, _, 0, _, rfl, rfl, sqt e, atI0, rfl, _, rfl, ?_⟩
        refine ifF (by first | decide +kernel | (rw [strE]; exact decide_eq_true rfl) | (rw [strE]; refine decide_eq_false ?_; simp only [It.word]; decide +kernel)) ?_
        refine ⟨_, rfl, a, _, 0, _, rfl, rfl, sqt e, atI0, rfl, _, rfl, ?_⟩
        refine ifF (by first | decide +kernel | (rw [strE]; exact decide_eq_true rfl) | (rw [strE]; refine decide_eq_false ?_; simp only [It.word]; decide +kernel)) ?_
        refine ⟨_, rfl, a, _, 0, _, rfl, rfl, sqt e, atI0, rfl, _, rfl, ?_⟩
        refine ifF (by first | decide +kernel | (rw [strE]; exact decide_eq_true rfl) | (rw [strE]; refine decide_eq_false ?_; simp only [It.word]; decide +kernel)) ?_
        refine ⟨_, rfl, a, _, 0, _, rfl, rfl, sqt e, atI0, rfl, _, rfl, ?_⟩
        refine ifF (by first | decide +kernel | (rw [strE]; exact decide_eq_true rfl) | (rw [strE]; refine decide_eq_false ?_; simp only [It.word]; decide +kernel)) ?_
        refine ⟨_, rfl, a, _, 0, _, rfl, rfl, sqt e, atI0, rfl, _, rfl, ?_⟩
        refine ifF (by first | decide +kernel | (rw [strE]; exact decide_eq_true rfl) | (rw [strE]; refine decide_eq_false ?_; simp only [It.word]; decide +kernel)) ?_
        refine ⟨_, rfl, a, _, 0, _, rfl, rfl, sqt e, atI0, rfl, _, rfl, ?_⟩
        refine ifF (by first | decide +kernel | (rw [strE]; exact decide_eq_true rfl) | (rw [strE]; refine decide_eq_false ?_; simp only [It.word]; decide +kernel)) ?_
        refine ⟨_, rfl, 1, rfl, a, _, rfl, sqt e, not_head _ _ _, fun p1 hp1 => ?_⟩
        have s1 := fun o => same_new hp1 o
        rw [cut_head]
        refine ⟨_, rfl, 1, rfl, a, _, rfl, sqt (s1 _ _ _ e), not_whole _ _ _, fun p2 hp2 => ?_⟩
        have s2 := fun o => (s1 (.tup [.str "not"])).trans (same_new hp2 o)
        rw [cut_tail]
        refine ⟨p2, rfl, ⟨_, sqt upd_same⟩, fun D hD => ?_⟩
        refine lc_tup (K := K) (a := p2) (xs := [x]) (fun (k : Nat) (H' : Hp) => ∃ us : List V, Same (upd (upd H p1 (.tup [.str "not"])) p2 (.tup [x])) H' ∧ H' D = some (.lst us) ∧ Kids H' ((([j]).take k).map (It.rep ρ)) us) ?_ ?_ ?_ ?_
        · exact ⟨[], same_new hD _, upd_same, by rw [List.take_zero]; exact kids0⟩
        · rintro k H' _ ⟨us, s3, _⟩
          exact sqt (s3 _ _ upd_same)
        · rintro k x H' hx ⟨us, s3, e3, hk3⟩
          obtain ⟨u, hu, hin, hmem⟩ := hkids.get hx
          obtain ⟨b', hj, hjd⟩ := kid hmem
          have s03 := (s2 _).trans s3
          refine ⟨rfl, yes_if ?_⟩
          refine ⟨_, rfl, _, rfl, _, dv, u, xs, B, b', ρ, rfl, hin.mono (Tp.same s03), hj, hjd, en.same s03, fun y H4 s4 hy => ?_⟩
          have e4 := s4 _ _ e3
          refine ⟨_, e4, ?_, us ++ [y], same_put (s3.trans s4) hD, upd_same, ?_⟩
          · have := hk3.1
            rw [List.length_map, List.length_take] at this
            have h3 : ([j]).length ≤ 3 := (Nat.le_of_ble_eq_true rfl)
            exact small1000 (by omega)
          · rw [List.take_add_one, hu, List.map_append]
            exact Kids.snoc (hk3.mono ((Tp.same s4).trans (tp_put e4))) (hy.mono (tp_put e4))
        · rintro H3 ⟨us, s3, e3, hk3⟩
          rw [hkids.1, List.take_length] at hk3
          have hul : us.length = ([j]).length := by rw [hk3.1, List.length_map]
          have hll : ([j]).length ≤ 3 := (Nat.le_of_ble_eq_true rfl)
          have hl1 : 1 ≤ ([j]).length := (Nat.le_of_ble_eq_true rfl)
          refine ⟨D, us, rfl, .inl ⟨sqd e3, fun tp htp => ?_⟩⟩
          have s03 := (s2 _).trans s3
          have e1 := (same_new htp (.tup us)) _ _ (s3 _ _ ((same_new hp2 (.tup [x])) _ _ (upd_same (H := H) (a := p1) (o := .tup [.str "not"]))))
          refine ⟨p1, tp, [.str "not"], us, rfl, rfl, sqt e1, sqt upd_same, small1000' (show 1 + us.length ≤ 1000 by omega), fun h => by simp at h, fun _ h => by rw [h] at hul; simp at hul, fun _ _ rp hrp => ?_⟩
          have s5 := (same_new htp (.tup us)).trans (same_new hrp (.tup ([.str "not"] ++ us)))
          refine q _ _ (s03.trans s5) ?_
          exact rest_in (i := .un "not" j) rfl (hk3.mono (Tp.same s5)) upd_same
    | bin e g1 g2 =>
      rename_i ww j1 j2 x1 x2
      have hkids : Kids H [j1, j2] [x1, x2] := .cons g1 (kids1 g2)
      have hw8 : ∀ z ∈ (["name", "number", "true", "false", "all", "any", "div", "mod"] : List Str), decide (V.str ww = V.str z) = false := by
        cases ho with
        | bin hw _ _ =>
          simp only [List.mem_cons, List.not_mem_nil, or_false] at hw
          rcases hw with rfl | rfl | rfl | rfl | rfl <;> decide +kernel
        | cmp hw _ _ =>
          simp only [List.mem_cons, List.not_mem_nil, or_false] at hw
          rcases hw with rfl | rfl <;> decide +kernel
      clear ho
      refine ⟨_, rfl, a, _, 0, _, rfl, rfl, sqt e, atI0, rfl, _, rfl, ?_⟩
      refine ifF (hw8 _ (by decide +kernel)) ?_
      refine ⟨_, rfl, a, _, 0, _, rfl, rfl, sqt e, atI0, rfl, _, rfl, ?_⟩
      refine ifF (hw8 _ (by decide +kernel)) ?_
      refine ⟨_, rfl, a, _, 0, _, rfl, rfl, sqt e, atI0, rfl, _, rfl, ?_⟩
      refine ifF (hw8 _ (by decide +kernel)) ?_
      refine ⟨_, rfl, a, _, 0, _, rfl, rfl, sqt e, atI0, rfl, _, rfl, ?_⟩
      refine ifF (hw8 _ (by decide +kernel)) ?_
      refine ⟨_, rfl, a, _, 0, _, rfl, rfl, sqt e, atI0, rfl, _, rfl, ?_⟩
      refine ifF (hw8 _ (by decide +kernel)) ?_
      refine ⟨_, rfl, a, _, 0, _, rfl, rfl, sqt e, atI0, rfl, _, rfl, ?_⟩
      refine ifF (hw8 _ (by decide +kernel)) ?_
      refine ⟨_, rfl, a, _, 0, _, rfl, rfl, sqt e, atI0, rfl, _, rfl, ?_⟩
      refine ifF (hw8 _ (by decide +kernel)) ?_
      refine ⟨_, rfl, a, _, 0, _, rfl, rfl, sqt e, atI0, rfl, _, rfl, ?_⟩
      refine ifF (hw8 _ (by decide +kernel)) ?_
      refine ⟨_, rfl, 1, rfl, a, _, rfl, sqt e, not_head _ _ _, fun p1 hp1 => ?_⟩
      have s1 := fun o => same_new hp1 o
      rw [cut_head]
      refine ⟨_, rfl, 1, rfl, a, _, rfl, sqt (s1 _ _ _ e), not_whole _ _ _, fun p2 hp2 => ?_⟩
      have s2 := fun o => (s1 (.tup [.str ww])).trans (same_new hp2 o)
      rw [cut_tail]
      refine ⟨p2, rfl, ⟨_, sqt upd_same⟩, fun D hD => ?_⟩
      refine lc_tup (K := K) (a := p2) (xs := [x1, x2]) (fun (k : Nat) (H' : Hp) => ∃ us : List V, Same (upd (upd H p1 (.tup [.str ww])) p2 (.tup [x1, x2])) H' ∧ H' D = some (.lst us) ∧ Kids H' ((([j1, j2]).take k).map (It.rep ρ)) us) ?_ ?_ ?_ ?_
      · exact ⟨[], same_new hD _, upd_same, by rw [List.take_zero]; exact kids0⟩
      · rintro k H' _ ⟨us, s3, _⟩
        exact sqt (s3 _ _ upd_same)
      · rintro k x H' hx ⟨us, s3, e3, hk3⟩
        obtain ⟨u, hu, hin, hmem⟩ := hkids.get hx
        obtain ⟨b', hj, hjd⟩ := kid hmem
        have s03 := (s2 _).trans s3
        refine ⟨rfl, yes_if ?_⟩
        refine ⟨_, rfl, _, rfl, _, dv, u, xs, B, b', ρ, rfl, hin.mono (Tp.same s03), hj, hjd, en.same s03, fun y H4 s4 hy => ?_⟩
        have e4 := s4 _ _ e3
        refine ⟨_, e4, ?_, us ++ [y], same_put (s3.trans s4) hD, upd_same, ?_⟩
        · have := hk3.1
          rw [List.length_map, List.length_take] at this
          have h3 : ([j1, j2]).length ≤ 3 := (Nat.le_of_ble_eq_true rfl)
          exact small1000 (by omega)
        · rw [List.take_add_one, hu, List.map_append]
          exact Kids.snoc (hk3.mono ((Tp.same s4).trans (tp_put e4))) (hy.mono (tp_put e4))
      · rintro H3 ⟨us, s3, e3, hk3⟩
        rw [hkids.1, List.take_length] at hk3
        have hul : us.length = ([j1, j2]).length := by rw [hk3.1, List.length_map]
        have hll : ([j1, j2]).length ≤ 3 := (Nat.le_of_ble_eq_true rfl)
        have hl1 : 1 ≤ ([j1, j2]).length := (Nat.le_of_ble_eq_true rfl)
        refine ⟨D, us, rfl, .inl ⟨sqd e3, fun tp htp => ?_⟩⟩
        have s03 := (s2 _).trans s3
        have e1 := (same_new htp (.tup us)) _ _ (s3 _ _ ((same_new hp2 (.tup [x1, x2])) _ _ (upd_same (H := H) (a := p1) (o := .tup [.str ww]))))
        refine ⟨p1, tp, [.str ww], us, rfl, rfl, sqt e1, sqt upd_same, small1000' (show 1 + us.length ≤ 1000 by omega), fun h => by simp at h, fun _ h => by rw [h] at hul; simp at hul, fun _ _ rp hrp => ?_⟩
        have s5 := (same_new htp (.tup us)).trans (same_new hrp (.tup ([.str ww] ++ us)))
        refine q _ _ (s03.trans s5) ?_
        exact rest_in (i := .bin ww j1 j2) rfl (hk3.mono (Tp.same s5)) upd_same
    | tri e g1 g2 g3 =>
      rename_i j1 j2 j3 x1 x2 x3
      have hkids : Kids H [j1, j2, j3] [x1, x2, x3] := .cons g1 (.cons g2 (kids1 g3))
      clear ho
      refine ⟨_, rfl, a, _, 0, _, rfl, rfl, sqt e, atI0, rfl, _, rfl, ?_⟩
      refine ifF (by first | decide +kernel | (rw [strE]; exact decide_eq_true rfl) | (rw [strE]; refine decide_eq_false ?_; simp only [It.word]; decide +kernel)) ?_
      refine ⟨_, rfl, a, _, 0, _, rfl, rfl, sqt e, atI0, rfl, _, rfl, ?_⟩
      refine ifF (by first | decide +kernel | (rw [strE]; exact decide_eq_true rfl) | (rw [strE]; refine decide_eq_false ?_; simp only [It.word]; decide +kernel)) ?_
      refine ⟨_, rfl, a, _, 0, _, rfl, rfl, sqt e, atI0, rfl, _, rfl, ?_⟩
      refine ifF (by first | decide +kernel | (rw [strE]; exact decide_eq_true rfl) | (rw [strE]; refine decide_eq_false ?_; simp only [It.word]; decide +kernel)) ?_
      refine ⟨_, rfl, a, _, 0, _, rfl, rfl, sqt e, atI0, rfl, _, rfl, ?_⟩
      refine ifF (by first | decide +kernel | (rw [strE]; exact decide_eq_true rfl) | (rw [strE]; refine decide_eq_false ?_; simp only [It.word]; decide +kernel)) ?_
      refine ⟨_, rfl, a, _, 0, _, rfl, rfl, sqt e, atI0, rfl, _, rfl, ?_⟩
      refine ifF (by first | decide +kernel | (rw [strE]; exact decide_eq_true rfl) | (rw [strE]; refine decide_eq_false ?_; simp only [It.word]; decide +kernel)) ?_
      refine ⟨_, rfl, a, _, 0, _, rfl, rfl, sqt e, atI0, rfl, _, rfl, ?_⟩
      refine ifF (by first | decide +kernel | (rw [strE]; exact decide_eq_true rfl) | (rw [strE]; refine decide_eq_false ?_; simp only [It.word]; decide +kernel)) ?_
      refine ⟨_, rfl, a, _, 0, _, rfl, rfl, sqt e, atI0, rfl, _, rfl, ?_⟩
      refine ifF (by first | decide +kernel | (rw [strE]; exact decide_eq_true rfl) | (rw [strE]; refine decide_eq_false ?_; simp only [It.word]; decide +kernel)) ?_
      refine ⟨_, rfl, a, _, 0, _, rfl, rfl, sqt e, atI0, rfl, _, rfl, ?_⟩
      refine ifF (by first | decide +kernel | (rw [strE]; exact decide_eq_true rfl) | (rw [strE]; refine decide_eq_false ?_; simp only [It.word]; decide +kernel)) ?_
      refine ⟨_, rfl, 1, rfl, a, _, rfl, sqt e, not_head _ _ _, fun p1 hp1 => ?_⟩
      have s1 := fun o => same_new hp1 o
      rw [cut_head]
      refine ⟨_, rfl, 1, rfl, a, _, rfl, sqt (s1 _ _ _ e), not_whole _ _ _, fun p2 hp2 => ?_⟩
      have s2 := fun o => (s1 (.tup [.str "if"])).trans (same_new hp2 o)
      rw [cut_tail]
      refine ⟨p2, rfl, ⟨_, sqt upd_same⟩, fun D hD => ?_⟩
      refine lc_tup (K := K) (a := p2) (xs := [x1, x2, x3]) (fun (k : Nat) (H' : Hp) => ∃ us : List V, Same (upd (upd H p1 (.tup [.str "if"])) p2 (.tup [x1, x2, x3])) H' ∧ H' D = some (.lst us) ∧ Kids H' ((([j1, j2, j3]).take k).map (It.rep ρ)) us) ?_ ?_ ?_ ?_
      · exact ⟨[], same_new hD _, upd_same, by rw [List.take_zero]; exact kids0⟩
      · rintro k H' _ ⟨us, s3, _⟩
        exact sqt (s3 _ _ upd_same)
      · rintro k x H' hx ⟨us, s3, e3, hk3⟩
        obtain ⟨u, hu, hin, hmem⟩ := hkids.get hx
        obtain ⟨b', hj, hjd⟩ := kid hmem
        have s03 := (s2 _).trans s3
        refine ⟨rfl, yes_if ?_⟩
        refine ⟨_, rfl, _, rfl, _, dv, u, xs, B, b', ρ, rfl, hin.mono (Tp.same s03), hj, hjd, en.same s03, fun y H4 s4 hy => ?_⟩
        have e4 := s4 _ _ e3
        refine ⟨_, e4, ?_, us ++ [y], same_put (s3.trans s4) hD, upd_same, ?_⟩
        · have := hk3.1
          rw [List.length_map, List.length_take] at this
          have h3 : ([j1, j2, j3]).length ≤ 3 := (Nat.le_of_ble_eq_true rfl)
          exact small1000 (by omega)
        · rw [List.take_add_one, hu, List.map_append]
          exact Kids.snoc (hk3.mono ((Tp.same s4).trans (tp_put e4))) (hy.mono (tp_put e4))
      · rintro H3 ⟨us, s3, e3, hk3⟩
        rw [hkids.1, List.take_length] at hk3
        have hul : us.length = ([j1, j2, j3]).length := by rw [hk3.1, List.length_map]
        have hll : ([j1, j2, j3]).length ≤ 3 := (Nat.le_of_ble_eq_true rfl)
        have hl1 : 1 ≤ ([j1, j2, j3]).length := (Nat.le_of_ble_eq_true rfl)
        refine ⟨D, us, rfl, .inl ⟨sqd e3, fun tp htp => ?_⟩⟩
        have s03 := (s2 _).trans s3
        have e1 := (same_new htp (.tup us)) _ _ (s3 _ _ ((same_new hp2 (.tup [x1, x2, x3])) _ _ (upd_same (H := H) (a := p1) (o := .tup [.str "if"]))))
        refine ⟨p1, tp, [.str "if"], us, rfl, rfl, sqt e1, sqt upd_same, small1000' (show 1 + us.length ≤ 1000 by omega), fun h => by simp at h, fun _ h => by rw [h] at hul; simp at hul, fun _ _ rp hrp => ?_⟩
        have s5 := (same_new htp (.tup us)).trans (same_new hrp (.tup ([.str "if"] ++ us)))
        refine q _ _ (s03.trans s5) ?_
        exact rest_in (i := .tri j1 j2 j3) rfl (hk3.mono (Tp.same s5)) upd_same
end
end NL

namespace NL
open PySem PySem.Spec PyProof.Rows L2
section
variable {P : Program} {w : World} {K : PySem.W.Frag} {mg : Str → Option Value} {base : Heap}
/-! ### _check, of an item without names -/
def spCheck (n : Nat) : Sp := fun vs H Q _ => ∃ (v : V) (i : It) (B : Nat) (b : Bool) (t : Nat), vs = [v, .int (t : Int)] ∧ ItemIn H i v ∧ Okx [] B b i ∧ i.dep ≤ n ∧ t + i.dep ≤ 13 ∧ ∀ H', Same H H' → Q .non H'
theorem no_check {fa : Addr} {fd : FuncData} {ps : List Str} {c : Nat} : FnOk P w K mg base CX0 c fa fd ps (spCheck 0) := by
  have no : ∀ vs H Q E, ¬ spCheck 0 vs H Q E := fun vs H Q E ⟨v, i, B, b, t, _, _, _, h, _⟩ => by
    have := dep_pos i
    omega
  exact ⟨fun vs H Q E h => absurd h (no vs H Q E), fun A outer s H args us vs Q E _ _ _ _ h => absurd h (no vs H Q E)⟩
theorem no_fn {fa : Addr} {fd : FuncData} {ps : List Str} {c : Nat} : FnOk P w K mg base CX0 c fa fd ps (fun _ _ _ _ => False) := ⟨fun vs H Q E h => h.elim, fun A outer s H args us vs Q E _ _ _ _ h => h.elim⟩
theorem ok_check (T : Txt K mg) : ∀ n : Nat, FnOk P w K mg base CX0 (n + 2) T.a_check T.d_check P_check (spCheck n)
  | 0 => no_check
  | n + 1 => by
    have G_check := ok_check T n
    have Gparts_in := ok_parts_in (P := P) (w := w) (base := base) T
    have Gis_name : FnOk P w K mg base CX0 1 T.ais_name T.dis_name Pis_name (fun _ _ _ _ => False) := no_fn
    refine T.F_check.ok sc_check (fun vs H Q E h => ?_) (fun cdv A outer s H vs Q E hr h => ?_)
    · obtain ⟨v, i, B, b, t, rfl, _⟩ := h
      rfl
    obtain ⟨v, i, B, b, t, rfl, hi, ho, hd, ht, q⟩ := h
    obtain ⟨a, rfl⟩ := hi.ref
    obtain ⟨r, ha⟩ := hi.head
    have hp1 := dep_pos i
    refine ⟨_, (pss_cons (ps_if (pt_cmpR op_gt (pv 1) (pe_glob rfl T.g_MOST_DEPTH T.r_MOST_DEPTH) (nomark _))
    (pss_one ps_never)
    pss_nil)
    (pss_cons (ps_set (i := 2) sc_check.nd rfl (Or.inl rfl) (pe_ix ix_tup (pv 0) pe_int (fun _ _ => rfl)))
    (pss_cons (ps_if (PW.pt (pw_and (pt_cmpR op_eq (pv 2) pe_str (nomark _)) (pw_and1 (pt_not (pt_val (pe_call Gis_name (hr.mono (by omega)) (by rfl) T.mis_name T.Fis_name.kp T.bis_name .nil pass0 (pa_cons (pe_ix ix_tup (pv 0) pe_int (fun _ _ => rfl)) pa_nil)))))))
    (pss_one ps_never)
    pss_nil)
    (pss_cons (ps_if (PW.pt (pw_and (pt_cmpR op_in_seq (pv 2) (pe_tup (pa_cons pe_str (pa_cons pe_str pa_nil))) (by rfl)) (pw_and1 (pt_cmpR op_lt (pe_ix ix_tup (pv 0) pe_int (fun _ _ => rfl)) pe_int (nomark _)))))
    (pss_one ps_never)
    pss_nil)
    (pss_one (ps_for PassesOwn.never rfl (pi_tup (pe_call Gparts_in (hr.mono (by omega)) (by rfl) T.mparts_in T.Fparts_in.kp T.bparts_in .nil pass0 (pa_cons (pv 0) pa_nil))) (pg_name (i := 3) sc_check.nd rfl (Or.inl rfl))
    (pss_one (ps_expr (pe_call G_check (hr.mono (by omega)) (by rfl) T.m_check T.F_check.kp T.b_check .nil pass0 (pa_cons (pv 3) (pa_cons (pe_op op_add (pv 1) pe_int) pa_nil))))))))))), ?_⟩
    refine ⟨_, rfl, _, _, rfl, rfl, _, rfl, ?_⟩
    refine ifF (decide_eq_false (by omega)) ?_
    refine ⟨_, rfl, a, _, 0, _, rfl, rfl, sqt ha, atI0, ?_⟩
    obtain ⟨hw, hne⟩ : decide (V.str i.word = V.str ("name" : Str)) = false ∧ ∀ x, i ≠ .name x := by
      rcases word_name hi ho with ⟨x, rfl, e1⟩ | h
      · cases ho with
        | name hx => cases hx
      · exact h
    refine ⟨_, rfl, rfl, _, rfl, ?_⟩
    refine ifF hw (iteF ?_)
    refine ⟨_, rfl, (Nat.le_of_ble_eq_true rfl), fun p1 hp1 => ?_⟩
    have s1 := fun o => same_new hp1 o
    refine ⟨p1, _, rfl, .inr (sqt upd_same), rfl, (by decide +kernel), _, rfl, ?_⟩
    obtain ⟨_, _, _, _, c2⟩ := word_cls ho
    have hpo : ∀ o, Same H (upd H p1 o) := s1
    refine' cutP ?f ?b
    case f =>
      intro body
      by_cases h2 : i.cls = 2
      · refine ifT (inT (ys := ["div", "mod"]) rfl (by rw [c2, h2] <;> rfl)) ?_
        obtain ⟨x, j, m, e1, hj, ej⟩ := hi.divs h2
        have hm : 1 ≤ m := by
          rw [ej] at ho
          cases ho; assumption
        refine ⟨_, rfl, a, _, 2, _, rfl, rfl, sqt (s1 _ _ _ e1), atI2, _, _, rfl, rfl, _, rfl, ?_⟩
        exact ifF (decide_eq_false (by omega)) body
      · exact ifF (inT (ys := ["div", "mod"]) rfl (by rw [c2]; simpa using h2)) (iteF body)
    case b =>
      refine ⟨_, rfl, _, i, [], B, b, rfl, hi.mono (Tp.same (s1 _)), ho, fun tp ys H2 s2 e2 hk => ?_⟩
      refine ⟨tp, rfl, ⟨_, sqt e2⟩, for_tup (K := K) (a := tp) (xs := ys) (fun (j : Nat) (σ : L2.St) (H' : Hp) => ∃ y3 : Option V, σ = [some (.ref a), some (.int (t : Int)), some (.str i.word), y3] ∧ Same H2 H') ?_ ?_ ?_ ?_⟩
      · exact ⟨none, rfl, Same.refl H2⟩
      · rintro j σ H' _ ⟨y3, rfl, s3⟩
        exact sqt (s3 _ _ e2)
      · rintro j x σ H3 hx ⟨y3, rfl, s3⟩
        obtain ⟨kj, hkj, hin, hmem⟩ := hk.get hx
        obtain ⟨b', hj⟩ := kids_ok ho kj hmem
        have h1 := depL_in hmem
        have h2 := @kids_dep i
        refine ⟨_, rfl, _, rfl, _, _, rfl, rfl, _, kj, B, b', t + 1, rfl, hin.mono (Tp.same s3), hj, by omega, by omega, fun H4 s4 => ?_⟩
        exact ⟨_, rfl, s3.trans s4⟩
      · rintro σ H3 ⟨y3, rfl, s3⟩
        exact q _ ((s1 _).trans (s2.trans s3))
theorem ok_check_expression (T : Txt K mg) : FnOk P w K mg base CX0 15 T.acheck_expression T.dcheck_expression Pcheck_expression (fun vs H Q _ => ∃ (v : V) (i : It) (B : Nat) (b : Bool), vs = [v] ∧ ItemIn H i v ∧ Okx [] B b i ∧ i.dep ≤ 12 ∧ ∀ H', Same H H' → Q .non H') := by
  have G_check := ok_check (P := P) (w := w) (base := base) T 12
  refine T.Fcheck_expression.ok sccheck_expression (fun vs H Q E h => ?_) (fun cdv A outer s H vs Q E hr h => ?_)
  · obtain ⟨v, i, B, b, rfl, _⟩ := h
    rfl
  obtain ⟨v, i, B, b, rfl, hi, ho, hd, q⟩ := h
  refine ⟨_, (pss_one (ps_expr (pe_call G_check (hr.mono (by omega)) (by rfl) T.m_check T.F_check.kp T.b_check .nil pass0 (pa_cons (pv 0) (pa_cons pe_int pa_nil))))), ?_⟩
  exact ⟨_, rfl, v, i, B, b, 1, rfl, hi, ho, hd, by omega, fun H' s' => q H' s'⟩
end
end NL

namespace NL
open PySem PySem.Spec PyProof.Rows L2
theorem opv_add (x y : Int) : opv "add" x y = x + y := if_pos rfl
theorem opv_sub (x y : Int) : opv "sub" x y = x - y := by
  unfold opv
  rw [if_neg (by decide +kernel), if_pos rfl]
theorem opv_mul (x y : Int) : opv "mul" x y = x * y := by
  unfold opv
  rw [if_neg (by decide +kernel), if_neg (by decide +kernel), if_pos rfl]
theorem opv_min (x y : Int) : opv "min" x y = if y < x then y else x := by
  unfold opv
  rw [if_neg (by decide +kernel), if_neg (by decide +kernel), if_neg (by decide +kernel), if_pos rfl]
theorem opv_max (x y : Int) : opv "max" x y = if y > x then y else x := by
  unfold opv
  rw [if_neg (by decide +kernel), if_neg (by decide +kernel), if_neg (by decide +kernel), if_neg (by decide +kernel)]
theorem neF {u v : Int} (h : u = v) : (!decide (V.int u = V.int v)) = false := by rw [h, decide_eq_true rfl] <;> rfl
theorem neB {u v : Bool} (h : u = v) : (!decide (V.bl u = V.bl v)) = false := by rw [h, decide_eq_true rfl] <;> rfl
theorem inI2 {x y z : Int} (h : x = y ∨ x = z) : inV (V.int x) [V.int y, V.int z] = true := by
  unfold inV
  rcases h with h | h
  · rw [h]; simp [eqV]
  · rw [h]; simp [eqV]
/-- two expressions, two conditions and their names' values -/
structure Duo (xs : List Str) (B k : Nat) (ρ : Str → Int) (i j : It) (b : Bool) : Prop where
  io : Okx xs B b i
  jo : Okx xs B b j
  idp : i.dep ≤ 6
  jdp : j.dep ≤ 6
  bs : Bs xs B k ρ
  sz : k * 127 ≤ 134217728
theorem Duo.imx {xs : List Str} {B k : Nat} {ρ : Str → Int} {i j : It} {b : Bool} (h : Duo xs B k ρ i j b) : i.mx ≤ 32 ∧ j.mx ≤ 32 := by
  have h1 := mx_dep i
  have h2 := mx_dep j
  have h3 := two_mono h.idp
  have h4 := two_mono h.jdp
  have e : 2 ^ 6 = 64 := rfl
  omega
/-- an item of few leaves over the same names -/
theorem ev_of {H : Hp} {xs : List Str} {B k : Nat} {ρ : Str → Int} {dv : Addr} {b : Bool} {i : It} {v : V} (hi : ItemIn H i v) (ho : Okx xs B b i) (hd : i.dep ≤ 13) (hm : i.mx ≤ 126) (bs : Bs xs B k ρ) (sz : k * 127 ≤ 134217728) (en : EnvIn H dv ρ xs) : Ev H xs B k ρ dv 13 b i v :=
  ⟨hi, ho, hd, bs, Nat.le_trans (Nat.mul_le_mul_left k (by omega)) sz, en⟩
section
variable {P : Program} {w : World} {K : PySem.W.Frag} {mg : Str → Option Value} {base : Heap}
/-! ### _law_of_two -/
def spOfTwo : Sp := fun vs H Q _ => ∃ (v1 v2 : V) (dv : Addr) (i j : It) (xs : List Str) (B k : Nat) (ρ : Str → Int) (n : Int), vs = [v1, v2, .int n, .ref dv] ∧ ItemIn H i v1 ∧ ItemIn H j v2 ∧ Duo xs B k ρ i j false ∧ EnvIn H dv ρ xs ∧ 1 ≤ n ∧ n.natAbs ≤ B + 1 ∧ ∀ H', Same H H' → Q (.bl true) H'
theorem ok_law_of_two (hN : base.NoSeer) (hp : P.given.tree = none) (T : Txt K mg) : FnOk P w K mg base CX0 47 T.a_law_of_two T.d_law_of_two P_law_of_two spOfTwo := by
  obtain ⟨Gvalue_of, _⟩ := rd_values (P := P) (w := w) hN hp T 13
  refine T.F_law_of_two.ok sc_law_of_two (fun vs H Q E h => ?_) (fun cdv A outer s H vs Q E hr h => ?_)
  · obtain ⟨v1, v2, dv, i, j, xs, B, k, ρ, n, rfl, _⟩ := h
    rfl
  obtain ⟨v1, v2, dv, i, j, xs, B, k, ρ, n, rfl, hi, hj, du, en, hn, hnB, q⟩ := h
  have hio := du.io
  have hjo := du.jo
  have hid := du.idp
  have hjd := du.jdp
  obtain ⟨him, hjm⟩ := du.imx
  have bs := du.bs
  have sz := du.sz
  refine ⟨_, (pss_cons (ps_set (i := 4) sc_law_of_two.nd rfl (Or.inl rfl) (pe_call Gvalue_of (hr.mono (by omega)) (by rfl) T.mvalue_of T.Fvalue_of.kp T.bvalue_of .nil pass0 (pa_cons (pv 0) (pa_cons (pv 3) pa_nil))))
    (pss_cons (ps_set (i := 5) sc_law_of_two.nd rfl (Or.inl rfl) (pe_call Gvalue_of (hr.mono (by omega)) (by rfl) T.mvalue_of T.Fvalue_of.kp T.bvalue_of .nil pass0 (pa_cons (pv 1) (pa_cons (pv 3) pa_nil))))
    (pss_cons (ps_setLc (i := 6) (own := [("kind", 7)]) (g := (gName 7)) (tt := tYes) rfl sc_law_of_two.nd rfl rfl (sw_true rfl rfl rfl (by decide +kernel)) (pi_list (pe_lst (pa_cons pe_str (pa_cons pe_str (pa_cons pe_str (pa_cons pe_str pa_nil)))))) (blkOk_by (N := N_law_of_two) (sc := defScope s_law_of_two) (by decide +kernel)) (fun _ _ _ _ _ => (pg_name (i := 7) sc_law_of_two.nd rfl (Or.inl rfl))) (fun _ _ _ _ _ => pts_nil) (fun _ _ _ _ _ => (pe_call Gvalue_of (hr.mono (by omega)) (by rfl) T.mvalue_of T.Fvalue_of.kp T.bvalue_of .nil pass0 (pa_cons (pe_tup (pa_cons (pv 7) (pa_cons (pv 0) (pa_cons (pv 1) pa_nil)))) (pa_cons (pv 3) pa_nil)))))
    (pss_cons (ps_if (PW.pt (pw_or (pt_cmpR op_ne (pe_call Gvalue_of (hr.mono (by omega)) (by rfl) T.mvalue_of T.Fvalue_of.kp T.bvalue_of .nil pass0 (pa_cons (pe_tup (pa_cons pe_str (pa_cons (pe_tup (pa_cons pe_str (pa_cons (pv 0) (pa_cons (pv 1) pa_nil)))) (pa_cons (pv 0) pa_nil)))) (pa_cons (pv 3) pa_nil))) (pv 5) (nomark _)) (pw_or1 (pt_cmpR op_ne (pe_ix ix_list (pv 6) pe_int (fun _ _ => rfl)) (pe_op op_add (pv 4) (pv 5)) (nomark _)))))
    (pss_one (ps_ret pe_bl))
    pss_nil)
    (pss_cons (ps_if (PW.pt (pw_or (pt_cmpR op_ne (pe_op op_add (pe_ix ix_list (pv 6) pe_int (fun _ _ => rfl)) (pe_ix ix_list (pv 6) pe_int (fun _ _ => rfl))) (pe_ix ix_list (pv 6) pe_int (fun _ _ => rfl)) (nomark _)) (pw_or (pt_cmpR op_notIn_seq (pe_ix ix_list (pv 6) pe_int (fun _ _ => rfl)) (pe_lst (pa_cons (pv 4) (pa_cons (pv 5) pa_nil))) (by rfl)) (pw_or (pt_cmpR op_gt (pe_ix ix_list (pv 6) pe_int (fun _ _ => rfl)) (pe_ix ix_list (pv 6) pe_int (fun _ _ => rfl)) (nomark _)) (pw_or1 (pt_cmpR op_ne (pe_ix ix_list (pv 6) pe_int (fun _ _ => rfl)) (pe_op op_mulX (pv 4) (pv 5)) (nomark _)))))))
    (pss_one (ps_ret pe_bl))
    pss_nil)
    (pss_cons (ps_if (pt_cmpR op_ne (pe_call Gvalue_of (hr.mono (by omega)) (by rfl) T.mvalue_of T.Fvalue_of.kp T.bvalue_of .nil pass0 (pa_cons (pe_tup (pa_cons pe_str (pa_cons (pv 0) pa_nil))) (pa_cons (pv 3) pa_nil))) (pe_call Gvalue_of (hr.mono (by omega)) (by rfl) T.mvalue_of T.Fvalue_of.kp T.bvalue_of .nil pass0 (pa_cons (pe_tup (pa_cons pe_str (pa_cons (pv 0) (pa_cons (pe_tup (pa_cons pe_str (pa_cons (pe_tup (pa_cons pe_str (pa_cons pe_int pa_nil))) (pa_cons (pv 0) pa_nil)))) pa_nil)))) (pa_cons (pv 3) pa_nil))) (nomark _))
    (pss_one (ps_ret pe_bl))
    pss_nil)
    (pss_cons (ps_set (i := 8) sc_law_of_two.nd rfl (Or.inl rfl) (pe_call Gvalue_of (hr.mono (by omega)) (by rfl) T.mvalue_of T.Fvalue_of.kp T.bvalue_of .nil pass0 (pa_cons (pe_tup (pa_cons pe_str (pa_cons (pv 0) (pa_cons (pv 2) pa_nil)))) (pa_cons (pv 3) pa_nil))))
    (pss_one (ps_ret (pe_and (pe_cmpR op_ge (pv 8) pe_int (nomark _)) (pe_and (pe_cmpR op_lt (pv 8) (pv 2) (nomark _)) (pe_one (pe_cmpR op_eq (pe_op op_add (pe_op op_mulX (pe_call Gvalue_of (hr.mono (by omega)) (by rfl) T.mvalue_of T.Fvalue_of.kp T.bvalue_of .nil pass0 (pa_cons (pe_tup (pa_cons pe_str (pa_cons (pv 0) (pa_cons (pv 2) pa_nil)))) (pa_cons (pv 3) pa_nil))) (pv 2)) (pv 8)) (pv 4) (nomark _)))))))))))))), ?_⟩
  refine ⟨_, rfl, _, rfl, v1, dv, i, xs, B, k, ρ, rfl, ev_of hi hio (by omega) (by omega) bs sz en, fun H1 s1 => ?_⟩
  refine ⟨_, rfl, _, rfl, v2, dv, j, xs, B, k, ρ, rfl, ev_of (hj.mono (Tp.same s1)) hjo (by omega) (by omega) bs sz (en.same s1), fun H2 s2 => ?_⟩
  have s02 := s1.trans s2
  generalize ex : i.ev ρ = x
  generalize ey : j.ev ρ = y
  have bx : Builtin.Int.intBits x ≤ k * 32 := by
    rw [← ex]
    exact Nat.le_trans (ev_bits bs hio rfl).1 (Nat.mul_le_mul_left k him)
  have by_ : Builtin.Int.intBits y ≤ k * 32 := by
    rw [← ey]
    exact Nat.le_trans (ev_bits bs hjo rfl).1 (Nat.mul_le_mul_left k hjm)
  -- both
  refine ⟨(Nat.le_of_ble_eq_true rfl), fun lp hlp => ?_⟩
  have s3 := fun o => s02.trans (same_new hlp o)
  refine ⟨lp, rfl, ⟨_, sqd upd_same⟩, fun D hD => ?_⟩
  refine lc_list (K := K) (a := lp) (xs := [.str "add", .str "min", .str "max", .str "mul"]) (fun (m : Nat) (H' : Hp) => Same (upd H2 lp (.lst [.str "add", .str "min", .str "max", .str "mul"])) H' ∧ H' D = some (.lst (((["add", "min", "max", "mul"] : List Str).take m).map fun w => V.int (opv w x y)))) ?_ ?_ ?_ ?_
  · exact ⟨same_new hD _, upd_same⟩
  · rintro m H' _ ⟨s4, _⟩
    exact sqd (s4 _ _ upd_same)
  · rintro m z H' hz ⟨s4, e4⟩
    have s04 := (s3 _).trans s4
    obtain ⟨ww, hww, rfl, hw5⟩ : ∃ ww : Str, (["add", "min", "max", "mul"] : List Str)[m]? = some ww ∧ z = V.str ww ∧ ww ∈ five := by
      match m, hz with
      | 0, hz => cases Option.some.inj hz; exact ⟨_, rfl, rfl, by decide +kernel⟩
      | 1, hz => cases Option.some.inj hz; exact ⟨_, rfl, rfl, by decide +kernel⟩
      | 2, hz => cases Option.some.inj hz; exact ⟨_, rfl, rfl, by decide +kernel⟩
      | 3, hz => cases Option.some.inj hz; exact ⟨_, rfl, rfl, by decide +kernel⟩
      | m + 4, hz => simp at hz
    refine ⟨rfl, yes_if ?_⟩
    refine ⟨_, rfl, _, rfl, _, rfl, (Nat.le_of_ble_eq_true rfl), fun p hp => ?_⟩
    have s5 := fun o => s04.trans (same_new hp o)
    refine ⟨_, rfl, _, dv, .bin ww i j, xs, B, k, ρ, rfl, ev_of (.bin upd_same (hi.mono (Tp.same (s5 _))) (hj.mono (Tp.same (s5 _)))) (.bin hw5 hio hjo) (by simp only [It.dep]; omega) (by simp only [It.mx]; omega) bs sz (en.same (s5 _)), fun H6 s6 => ?_⟩
    have e6 := s6 _ _ (same_new hp _ _ _ e4)
    refine ⟨_, e6, ?_, same_put ((s4.trans (same_new hp _)).trans s6) hD, ?_⟩
    · rw [List.length_map, List.length_take]
      exact small1000 (by have : (["add", "min", "max", "mul"] : List Str).length = 4 := rfl; omega)
    · rw [upd_same, List.take_add_one, hww, List.map_append, It.ev, ex, ey]
      rfl
  rintro H4 ⟨s4, e4⟩
  have s04 := (s3 _).trans s4
  have e5 : H4 D = some (.lst [V.int (x + y), V.int (if y < x then y else x), V.int (if y > x then y else x), V.int (x * y)]) := by
    rw [e4]
    show some (HO.lst [V.int (opv "add" x y), V.int (opv "min" x y), V.int (opv "max" x y), V.int (opv "mul" x y)]) = _
    rw [opv_add, opv_min, opv_max, opv_mul]
  clear e4
  -- the sum less the one
  refine ⟨_, rfl, _, rfl, (Nat.le_of_ble_eq_true rfl), fun p1 hp1 => ⟨_, rfl, (Nat.le_of_ble_eq_true rfl), fun p2 hp2 => ?_⟩⟩
  have s5 := fun o => (s04.trans (same_new hp1 (.tup [.str "add", v1, v2]))).trans (same_new hp2 o)
  have a1 : ItemIn (upd (upd H4 p1 (.tup [.str "add", v1, v2])) p2 (.tup [.str "sub", .ref p1, v1])) (.bin "sub" (.bin "add" i j) i) (.ref p2) :=
    .bin upd_same (.bin (same_new hp2 _ _ _ upd_same) (hi.mono (Tp.same (s5 _))) (hj.mono (Tp.same (s5 _)))) (hi.mono (Tp.same (s5 _)))
  refine ⟨_, rfl, _, dv, .bin "sub" (.bin "add" i j) i, xs, B, k, ρ, rfl, ev_of a1 (.bin (by decide +kernel) (.bin (by decide +kernel) hio hjo) hio) (by simp only [It.dep]; omega) (by simp only [It.mx]; omega) bs sz (en.same (s5 _)), fun H5 s6 => ?_⟩
  have e6 := s6 _ _ (same_new hp2 _ _ _ (same_new hp1 _ _ _ e5))
  have s06 := (s5 _).trans s6
  refine ⟨_, rfl, rfl, _, rfl, ?_⟩
  refine ifF (neF (by rw [It.ev, It.ev, ex, ey, opv_add, opv_sub]; omega)) ?_
  refine ⟨_, rfl, D, _, 0, _, rfl, rfl, sqd e6, atI0, _, rfl, _, rfl, _, _, rfl, rfl, rfl, _, rfl, ?_⟩
  refine ifF (neF rfl) ?_
  clear a1 e5 s5
  -- the least and the greatest
  refine ⟨_, rfl, D, _, 1, _, rfl, rfl, sqd e6, atI1, _, rfl, D, _, 2, _, rfl, rfl, sqd e6, atI2, _, _, rfl, rfl, _, rfl, D, _, 0, _, rfl, rfl, sqd e6, atI0, rfl, _, rfl, ?_⟩
  refine ifF (neF (by split <;> split <;> omega)) ?_
  refine ⟨_, rfl, D, _, 1, _, rfl, rfl, sqd e6, atI1, _, rfl, _, rfl, (Nat.le_of_ble_eq_true rfl), fun p3 hp3 => ?_⟩
  have s7 := fun o => s06.trans (same_new hp3 o)
  have e7 := fun o => same_new hp3 o _ _ e6
  refine ⟨p3, _, rfl, .inl (sqd upd_same), rfl, rfl, _, rfl, ?_⟩
  refine ifF (by rw [if_pos rfl, inI2 (by split <;> simp)] <;> rfl) ?_
  refine ⟨_, rfl, D, _, 1, _, rfl, rfl, sqd (e7 _), atI1, _, rfl, D, _, 2, _, rfl, rfl, sqd (e7 _), atI2, _, _, rfl, rfl, _, rfl, ?_⟩
  refine ifF (decide_eq_false (by split <;> split <;> omega)) ?_
  refine ⟨_, rfl, D, _, 3, _, rfl, rfl, sqd (e7 _), atI_nat (j := 3) rfl, _, rfl, _, rfl, _, _, rfl, rfl, mul_ok bx by_ (by omega), rfl, _, rfl, ?_⟩
  refine ifF (neF rfl) ?_
  clear e7 e6
  -- the absolute value
  refine ⟨_, rfl, (Nat.le_of_ble_eq_true rfl), fun p4 hp4 => ?_⟩
  have s8 := fun o => (s7 (.lst [V.int x, V.int y])).trans (same_new hp4 o)
  refine ⟨_, rfl, _, dv, .un "abs" i, xs, B, k, ρ, rfl, ev_of (.un upd_same (hi.mono (Tp.same (s8 _)))) (.abs hio) (by simp only [It.dep]; omega) (by simp only [It.mx]; omega) bs sz (en.same (s8 _)), fun H9 s9 => ?_⟩
  have s09 := (s8 _).trans s9
  refine ⟨_, rfl, (Nat.le_of_ble_eq_true rfl), fun p5 hp5 => ⟨_, rfl, (Nat.le_of_ble_eq_true rfl), fun p6 hp6 => ⟨(Nat.le_of_ble_eq_true rfl), fun p7 hp7 => ?_⟩⟩⟩
  have m5 := fun o => same_new hp5 o
  have m6 := fun o => same_new hp6 o
  have m7 := fun o => same_new hp7 o
  have s10 := fun o => ((s09.trans (m5 (.tup [.str "number", .int 0]))).trans (m6 (.tup [.str "sub", .ref p5, v1]))).trans (m7 o)
  have a2 : ItemIn (upd (upd (upd H9 p5 (.tup [.str "number", .int 0])) p6 (.tup [.str "sub", .ref p5, v1])) p7 (.tup [.str "max", v1, .ref p6])) (.bin "max" i (.bin "sub" (.num 0) i)) (.ref p7) :=
    .bin upd_same (hi.mono (Tp.same (s10 _))) (.bin (m7 _ _ _ upd_same) (.num (m7 _ _ _ (m6 _ _ _ upd_same))) (hi.mono (Tp.same (s10 _))))
  refine ⟨_, rfl, _, dv, .bin "max" i (.bin "sub" (.num 0) i), xs, B, k, ρ, rfl, ev_of a2 (.bin (by decide +kernel) hio (.bin (by decide +kernel) (.num (Nat.zero_le _)) hio)) (by simp only [It.dep]; omega) (by simp only [It.mx]; omega) bs sz (en.same (s10 _)), fun H11 s11 => ?_⟩
  have s011 := (s10 _).trans s11
  refine ⟨rfl, _, rfl, ?_⟩
  refine ifF (neF (by rw [It.ev, It.ev, It.ev, It.ev, ex, opv_sub, opv_max]; split <;> split <;> omega)) ?_
  clear a2
  -- div and mod
  refine ⟨_, rfl, _, rfl, (Nat.le_of_ble_eq_true rfl), fun p8 hp8 => ?_⟩
  have s12 := fun o => s011.trans (same_new hp8 o)
  refine ⟨_, rfl, _, dv, .dm "mod" i n, xs, B, k, ρ, rfl, ev_of (.dm upd_same (hi.mono (Tp.same (s12 _)))) (.dm (by decide +kernel) hio hn hnB) (by simp only [It.dep]; omega) (by simp only [It.mx]; omega) bs sz (en.same (s12 _)), fun H13 s13 => ?_⟩
  have s013 := (s12 _).trans s13
  have em : (It.dm "mod" i n).ev ρ = x % n := by rw [It.ev, if_neg (by decide +kernel), ex]
  have ed : (It.dm "div" i n).ev ρ = x / n := by rw [It.ev, if_pos rfl, ex]
  rw [em]
  have b0 := Int.emod_nonneg x (show n ≠ 0 by omega)
  have b1 := Int.emod_lt_of_pos x (show 0 < n by omega)
  have bd : Builtin.Int.intBits ((It.dm "div" i n).ev ρ) ≤ k * 32 := Nat.le_trans (ev_bits bs (Okx.dm (w := "div") (by decide +kernel) hio hn hnB) rfl).1 (Nat.mul_le_mul_left k (by simp only [It.mx]; omega))
  rw [ed] at bd
  refine ⟨_, rfl, _, _, rfl, rfl, _, rfl, ?_⟩
  refine ifT (decide_eq_true b0) ?_
  refine ⟨_, rfl, _, rfl, _, _, rfl, rfl, _, rfl, ?_⟩
  refine ifT (decide_eq_true b1) ?_
  refine ⟨_, rfl, _, rfl, (Nat.le_of_ble_eq_true rfl), fun p9 hp9 => ?_⟩
  have s14 := fun o => s013.trans (same_new hp9 o)
  refine ⟨_, rfl, _, dv, .dm "div" i n, xs, B, k, ρ, rfl, ev_of (.dm upd_same (hi.mono (Tp.same (s14 _)))) (.dm (by decide +kernel) hio hn hnB) (by simp only [It.dep]; omega) (by simp only [It.mx]; omega) bs sz (en.same (s14 _)), fun H15 s15 => ?_⟩
  rw [ed]
  refine ⟨_, rfl, _, _, rfl, rfl, mul_ok bd (bs.num n hnB) (by have := bs.pos; omega), _, rfl, _, _, rfl, rfl, _, rfl, rfl, ?_⟩
  have hdiv := Int.emod_add_mul_ediv x n
  exact boolV (decide_eq_true (by show V.int (x / n * n + x % n) = V.int x; rw [Int.mul_comm, Int.add_comm, hdiv])) (q _ ((s14 _).trans s15))
end
end NL

namespace NL
open PySem PySem.Spec PyProof.Rows L2
theorem eqBF {u : Bool} : decide (V.bl (!u) = V.bl u) = false := by cases u <;> decide +kernel
theorem tr_less (ρ : Str → Int) (i j : It) : (It.bin "less" i j).tr ρ = decide (i.ev ρ < j.ev ρ) := by rw [It.tr, if_pos rfl]
theorem tr_equal (ρ : Str → Int) (i j : It) : (It.bin "equal" i j).tr ρ = decide (i.ev ρ = j.ev ρ) := by rw [It.tr, if_neg (by decide +kernel)]
theorem tr_all (ρ : Str → Int) (i j : It) : (It.grp "all" [i, j]).tr ρ = (i.tr ρ && j.tr ρ) := by
  rw [It.tr, if_pos rfl]
  simp [trL]
theorem tr_any (ρ : Str → Int) (i j : It) : (It.grp "any" [i, j]).tr ρ = (i.tr ρ || j.tr ρ) := by
  rw [It.tr, if_neg (by decide +kernel)]
  simp [trL]
theorem one_of {x y : Int} : [decide (x < y), decide (x = y), decide (y < x)].count true = 1 := by
  rcases Int.lt_trichotomy x y with h | h | h
  · rw [decide_eq_true h, decide_eq_false (show ¬ x = y by omega), decide_eq_false (show ¬ y < x by omega)]; rfl
  · rw [decide_eq_false (show ¬ x < y by omega), decide_eq_true h, decide_eq_false (show ¬ y < x by omega)]; rfl
  · rw [decide_eq_false (show ¬ x < y by omega), decide_eq_false (show ¬ x = y by omega), decide_eq_true h]; rfl
theorem two_okx {xs : List Str} {B : Nat} {i j : It} (hi : Okx xs B true i) (hj : Okx xs B true j) : ∀ z ∈ [i, j], Okx xs B true z := fun z h => by
  rcases List.mem_cons.mp h with e | e
  · rw [e]; exact hi
  · rw [List.mem_singleton.mp e]; exact hj
/-- a truth and another one, both read: first and second -/
theorem and_cut {Q : VK} {σ : L2.St} {H : Hp} {n : Nat} {x y : Bool} (hσ : σ[n]? = some (some (.bl y))) (h : Q (.bl (x && y)) H) : if x = true then tVar n σ H Q else Q (.bl false) H := by
  cases x with
  | true => rw [if_pos rfl]; exact ⟨_, hσ, h⟩
  | false => rw [if_neg Bool.false_ne_true]; exact h
section
variable {P : Program} {w : World} {K : PySem.W.Frag} {mg : Str → Option Value} {base : Heap}
/-! ### _law_of_tests -/
def spOfTests : Sp := fun vs H Q _ => ∃ (v1 v2 v3 v4 : V) (dv : Addr) (i j l r : It) (xs : List Str) (B k : Nat) (ρ : Str → Int), vs = [v1, v2, v3, v4, .ref dv] ∧ ItemIn H i v1 ∧ ItemIn H j v2 ∧ ItemIn H l v3 ∧ ItemIn H r v4 ∧ Duo xs B k ρ i j true ∧ Duo xs B k ρ l r false ∧ EnvIn H dv ρ xs ∧ ∀ H', Same H H' → Q (.bl true) H'
theorem ok_law_of_tests (hN : base.NoSeer) (hp : P.given.tree = none) (T : Txt K mg) : FnOk P w K mg base CX0 47 T.a_law_of_tests T.d_law_of_tests P_law_of_tests spOfTests := by
  obtain ⟨Gvalue_of, Gholds⟩ := rd_values (P := P) (w := w) hN hp T 13
  refine T.F_law_of_tests.ok sc_law_of_tests (fun vs H Q E h => ?_) (fun cdv A outer s H vs Q E hr h => ?_)
  · obtain ⟨v1, v2, v3, v4, dv, i, j, l, r, xs, B, k, ρ, rfl, _⟩ := h
    rfl
  obtain ⟨v1, v2, v3, v4, dv, i, j, l, r, xs, B, k, ρ, rfl, hi, hj, hl, hr_, du, dv2, en, q⟩ := h
  have hio := du.io
  have hjo := du.jo
  have hid := du.idp
  have hjd := du.jdp
  obtain ⟨him, hjm⟩ := du.imx
  have hlo := dv2.io
  have hro := dv2.jo
  have hld := dv2.idp
  have hrd := dv2.jdp
  obtain ⟨hlm, hrm⟩ := dv2.imx
  have bs := du.bs
  have sz := du.sz
  refine ⟨_, (pss_cons (ps_set (i := 5) sc_law_of_tests.nd rfl (Or.inl rfl) (pe_call Gholds (hr.mono (by omega)) (by rfl) T.mholds T.Fholds.kp T.bholds .nil pass0 (pa_cons (pv 0) (pa_cons (pv 4) pa_nil))))
    (pss_cons (ps_set (i := 6) sc_law_of_tests.nd rfl (Or.inl rfl) (pe_call Gholds (hr.mono (by omega)) (by rfl) T.mholds T.Fholds.kp T.bholds .nil pass0 (pa_cons (pv 1) (pa_cons (pv 4) pa_nil))))
    (pss_cons (ps_if (PW.pt (pw_or (pt_cmpR op_eq (pe_call Gholds (hr.mono (by omega)) (by rfl) T.mholds T.Fholds.kp T.bholds .nil pass0 (pa_cons (pe_tup (pa_cons pe_str (pa_cons (pv 0) pa_nil))) (pa_cons (pv 4) pa_nil))) (pv 5) (nomark _)) (pw_or1 (pt_cmpR op_ne (pe_call Gholds (hr.mono (by omega)) (by rfl) T.mholds T.Fholds.kp T.bholds .nil pass0 (pa_cons (pe_tup (pa_cons pe_str (pa_cons (pe_tup (pa_cons (pv 0) (pa_cons (pv 1) pa_nil))) pa_nil))) (pa_cons (pv 4) pa_nil))) (pe_and (pv 5) (pe_one (pv 6))) (nomark _)))))
    (pss_one (ps_ret pe_bl))
    pss_nil)
    (pss_cons (ps_if (pt_cmpR op_ne (pe_call Gholds (hr.mono (by omega)) (by rfl) T.mholds T.Fholds.kp T.bholds .nil pass0 (pa_cons (pe_tup (pa_cons pe_str (pa_cons (pe_tup (pa_cons pe_str (pa_cons (pe_tup (pa_cons (pe_tup (pa_cons pe_str (pa_cons (pv 0) pa_nil))) (pa_cons (pe_tup (pa_cons pe_str (pa_cons (pv 1) pa_nil))) pa_nil))) pa_nil))) pa_nil))) (pa_cons (pv 4) pa_nil))) (pe_and (pv 5) (pe_one (pv 6))) (nomark _))
    (pss_one (ps_ret pe_bl))
    pss_nil)
    (pss_cons (ps_set (i := 7) sc_law_of_tests.nd rfl (Or.inl rfl) (pe_call Gvalue_of (hr.mono (by omega)) (by rfl) T.mvalue_of T.Fvalue_of.kp T.bvalue_of .nil pass0 (pa_cons (pv 3) (pa_cons (pv 4) pa_nil))))
    (C8.pss_cut (ps_if (pt_val (pv 5))
    (pss_one (ps_set (i := 7) sc_law_of_tests.nd rfl (Or.inl rfl) (pe_call Gvalue_of (hr.mono (by omega)) (by rfl) T.mvalue_of T.Fvalue_of.kp T.bvalue_of .nil pass0 (pa_cons (pv 2) (pa_cons (pv 4) pa_nil)))))
    pss_nil)
    (pss_cons (ps_if (pt_cmpR op_ne (pe_call Gvalue_of (hr.mono (by omega)) (by rfl) T.mvalue_of T.Fvalue_of.kp T.bvalue_of .nil pass0 (pa_cons (pe_tup (pa_cons pe_str (pa_cons (pv 0) (pa_cons (pv 2) (pa_cons (pv 3) pa_nil))))) (pa_cons (pv 4) pa_nil))) (pv 7) (nomark _))
    (pss_one (ps_ret pe_bl))
    pss_nil)
    (pss_cons (ps_set (i := 8) sc_law_of_tests.nd rfl (Or.inl rfl) (pe_call Gholds (hr.mono (by omega)) (by rfl) T.mholds T.Fholds.kp T.bholds .nil pass0 (pa_cons (pe_tup (pa_cons pe_str (pa_cons (pv 2) (pa_cons (pv 3) pa_nil)))) (pa_cons (pv 4) pa_nil))))
    (pss_one (ps_ret (pe_cmpR op_eq (pe_bm PySem.F.plainAttrs_list PySem.F.slot_list_count PySem.F.type_list_count mt_countB (pe_lst (pa_cons (pv 8) (pa_cons (pe_call Gholds (hr.mono (by omega)) (by rfl) T.mholds T.Fholds.kp T.bholds .nil pass0 (pa_cons (pe_tup (pa_cons pe_str (pa_cons (pv 2) (pa_cons (pv 3) pa_nil)))) (pa_cons (pv 4) pa_nil))) (pa_cons (pe_call Gholds (hr.mono (by omega)) (by rfl) T.mholds T.Fholds.kp T.bholds .nil pass0 (pa_cons (pe_tup (pa_cons pe_str (pa_cons (pv 3) (pa_cons (pv 2) pa_nil)))) (pa_cons (pv 4) pa_nil))) pa_nil)))) (pa_cons pe_bl pa_nil)) pe_int (nomark _)))))))))))), ?_⟩
  refine ⟨_, rfl, _, rfl, v1, dv, i, xs, B, k, ρ, rfl, ev_of hi hio (by omega) (by omega) bs sz en, fun H1 s1 => ?_⟩
  refine ⟨_, rfl, _, rfl, v2, dv, j, xs, B, k, ρ, rfl, ev_of (hj.mono (Tp.same s1)) hjo (by omega) (by omega) bs sz (en.same s1), fun H2 s2 => ?_⟩
  have s02 := s1.trans s2
  generalize ex : i.tr ρ = x
  generalize ey : j.tr ρ = y
  -- not one
  refine ⟨_, rfl, (Nat.le_of_ble_eq_true rfl), fun p1 hp1 => ?_⟩
  have s3 := fun o => s02.trans (same_new hp1 o)
  refine ⟨_, rfl, _, dv, .un "not" i, xs, B, k, ρ, rfl, ev_of (.un upd_same (hi.mono (Tp.same (s3 _)))) (.not hio) (by simp only [It.dep]; omega) (by simp only [It.mx]; omega) bs sz (en.same (s3 _)), fun H3 s4 => ?_⟩
  have s03 := (s3 _).trans s4
  refine ⟨_, rfl, rfl, _, rfl, ?_⟩
  refine ifF (by rw [It.tr, ex]; exact eqBF) ?_
  -- all of the two
  refine ⟨_, rfl, _, rfl, (Nat.le_of_ble_eq_true rfl), fun p2 hp2 => ⟨(Nat.le_of_ble_eq_true rfl), fun p3 hp3 => ?_⟩⟩
  have s5 := fun o => (s03.trans (same_new hp2 (.tup [v1, v2]))).trans (same_new hp3 o)
  have a1 : ItemIn (upd (upd H3 p2 (.tup [v1, v2])) p3 (.tup [.str "all", .ref p2])) (.grp "all" [i, j]) (.ref p3) :=
    Kids.ok (.cons (hi.mono (Tp.same (s5 _))) (kids1 (hj.mono (Tp.same (s5 _))))) upd_same (same_new hp3 _ _ _ upd_same)
  refine ⟨_, rfl, _, dv, .grp "all" [i, j], xs, B, k, ρ, rfl, ev_of a1 (.grp (by decide +kernel) (Nat.le_of_ble_eq_true rfl) (two_okx hio hjo)) (by simp only [It.dep, depL]; omega) (by simp only [It.mx, mxL]; omega) bs sz (en.same (s5 _)), fun H5 s6 => ?_⟩
  have s06 := (s5 _).trans s6
  refine ⟨_, rfl, x, rfl, ?_⟩
  refine and_cut (n := 6) (y := y) (by rfl) ?_
  refine ⟨rfl, _, rfl, ?_⟩
  refine ifF (neB (by rw [tr_all, ex, ey])) ?_
  clear a1
  -- not any of not
  refine ⟨_, rfl, (Nat.le_of_ble_eq_true rfl), fun p4 hp4 => ⟨_, rfl, (Nat.le_of_ble_eq_true rfl), fun p5 hp5 => ⟨(Nat.le_of_ble_eq_true rfl), fun p6 hp6 => ⟨(Nat.le_of_ble_eq_true rfl), fun p7 hp7 => ⟨(Nat.le_of_ble_eq_true rfl), fun p8 hp8 => ?_⟩⟩⟩⟩⟩
  have m5 := fun o => same_new hp5 o
  have m6 := fun o => same_new hp6 o
  have m7 := fun o => same_new hp7 o
  have m8 := fun o => same_new hp8 o
  have s7 := fun o => ((((s06.trans (same_new hp4 (.tup [.str "not", v1]))).trans (m5 (.tup [.str "not", v2]))).trans (m6 (.tup [.ref p4, .ref p5]))).trans (m7 (.tup [.str "any", .ref p6]))).trans (m8 o)
  have a2 : ItemIn (upd (upd (upd (upd (upd H5 p4 (.tup [.str "not", v1])) p5 (.tup [.str "not", v2])) p6 (.tup [.ref p4, .ref p5])) p7 (.tup [.str "any", .ref p6])) p8 (.tup [.str "not", .ref p7])) (.un "not" (.grp "any" [.un "not" i, .un "not" j])) (.ref p8) := by
    refine .un upd_same (Kids.ok (.cons ?_ (kids1 ?_)) (m8 _ _ _ upd_same) (m8 _ _ _ (m7 _ _ _ upd_same)))
    · exact .un (m8 _ _ _ (m7 _ _ _ (m6 _ _ _ (m5 _ _ _ upd_same)))) (hi.mono (Tp.same (s7 _)))
    · exact .un (m8 _ _ _ (m7 _ _ _ (m6 _ _ _ upd_same))) (hj.mono (Tp.same (s7 _)))
  refine ⟨_, rfl, _, dv, .un "not" (.grp "any" [.un "not" i, .un "not" j]), xs, B, k, ρ, rfl, ev_of a2 (.not (.grp (by decide +kernel) (Nat.le_of_ble_eq_true rfl) (two_okx (.not hio) (.not hjo)))) (by simp only [It.dep, depL]; omega) (by simp only [It.mx, mxL]; omega) bs sz (en.same (s7 _)), fun H7 s8 => ?_⟩
  have s08 := (s7 _).trans s8
  clear a2
  refine ⟨_, rfl, x, rfl, ?_⟩
  refine and_cut (n := 6) (y := y) (by rfl) ?_
  refine ⟨rfl, _, rfl, ?_⟩
  refine ifF (neB (by rw [It.tr, tr_any, It.tr, It.tr, ex, ey]; cases x <;> cases y <;> rfl)) ?_
  -- if
  generalize eu : l.ev ρ = u
  generalize ew : r.ev ρ = w2
  refine ⟨_, rfl, _, rfl, v4, dv, r, xs, B, k, ρ, rfl, ev_of (hr_.mono (Tp.same s08)) hro (by omega) (by omega) bs sz (en.same s08), fun H9 s9 => ?_⟩
  have s09 := s08.trans s9
  refine ⟨fun σ H' => σ = [some v1, some v2, some v3, some v4, some (.ref dv), some (.bl x), some (.bl y), some (.int (if x = true then u else w2)), none] ∧ Same H H', ?_, ?_⟩
  · refine ⟨_, rfl, x, rfl, ?_⟩
    cases x with
    | true =>
      refine iteT ⟨_, rfl, _, rfl, v3, dv, l, xs, B, k, ρ, rfl, ev_of (hl.mono (Tp.same s09)) hlo (by omega) (by omega) bs sz (en.same s09), fun H10 s10 => ?_⟩
      rw [eu]
      exact ⟨rfl, s09.trans s10⟩
    | false =>
      refine iteF ?_
      rw [ew]
      exact ⟨rfl, s09⟩
  rintro σ Ha ⟨rfl, sa⟩
  refine ⟨_, rfl, _, rfl, _, rfl, (Nat.le_of_ble_eq_true rfl), fun p10 hp10 => ?_⟩
  have s11 := fun o => sa.trans (same_new hp10 o)
  refine ⟨_, rfl, _, dv, .tri i l r, xs, B, k, ρ, rfl, ev_of (.tri upd_same (hi.mono (Tp.same (s11 _))) (hl.mono (Tp.same (s11 _))) (hr_.mono (Tp.same (s11 _)))) (.tri hio hlo hro) (by simp only [It.dep]; omega) (by simp only [It.mx]; omega) bs sz (en.same (s11 _)), fun H12 s12 => ?_⟩
  have s012 := (s11 _).trans s12
  refine ⟨_, rfl, rfl, _, rfl, ?_⟩
  refine ifF (neF (by rw [It.ev, ex, eu, ew])) ?_
  -- less, equal, less
  refine ⟨_, rfl, _, rfl, (Nat.le_of_ble_eq_true rfl), fun p13 hp13 => ?_⟩
  have s14 := fun o => s012.trans (same_new hp13 o)
  refine ⟨_, rfl, _, dv, .bin "less" l r, xs, B, k, ρ, rfl, ev_of (.bin upd_same (hl.mono (Tp.same (s14 _))) (hr_.mono (Tp.same (s14 _)))) (.cmp (by decide +kernel) hlo hro) (by simp only [It.dep]; omega) (by simp only [It.mx]; omega) bs sz (en.same (s14 _)), fun H15 s15 => ?_⟩
  have s015 := (s14 _).trans s15
  refine ⟨_, rfl, _, rfl, _, rfl, (Nat.le_of_ble_eq_true rfl), fun p16 hp16 => ?_⟩
  have s17 := fun o => s015.trans (same_new hp16 o)
  refine ⟨_, rfl, _, dv, .bin "equal" l r, xs, B, k, ρ, rfl, ev_of (.bin upd_same (hl.mono (Tp.same (s17 _))) (hr_.mono (Tp.same (s17 _)))) (.cmp (by decide +kernel) hlo hro) (by simp only [It.dep]; omega) (by simp only [It.mx]; omega) bs sz (en.same (s17 _)), fun H18 s18 => ?_⟩
  have s018 := (s17 _).trans s18
  refine ⟨_, rfl, _, rfl, (Nat.le_of_ble_eq_true rfl), fun p19 hp19 => ?_⟩
  have s20 := fun o => s018.trans (same_new hp19 o)
  refine ⟨_, rfl, _, dv, .bin "less" r l, xs, B, k, ρ, rfl, ev_of (.bin upd_same (hr_.mono (Tp.same (s20 _))) (hl.mono (Tp.same (s20 _)))) (.cmp (by decide +kernel) hro hlo) (by simp only [It.dep]; omega) (by simp only [It.mx]; omega) bs sz (en.same (s20 _)), fun H21 s21 => ?_⟩
  have s021 := (s20 _).trans s21
  refine ⟨(Nat.le_of_ble_eq_true rfl), fun lp hlp => ?_⟩
  refine ⟨.inl ⟨rfl, _, sqd upd_same⟩, lp, [(It.bin "less" l r).tr ρ, (It.bin "equal" l r).tr ρ, (It.bin "less" r l).tr ρ], true, rfl, rfl, sqd upd_same, rfl, ?_⟩
  refine boolV ?_ (q _ (s021.trans (same_new hlp _)))
  rw [tr_less, tr_equal, tr_less, one_of]
  rfl
end
end NL

namespace NL
open PySem PySem.Spec PyProof.Rows L2
def spLaw (K : PySem.W.Frag) : Sp := fun vs H Q _ => ∃ (a : Addr) (ns : List Int), vs = [.ref a] ∧ SqL K H a (ns.map V.int) ∧ ns.length ≤ 63 ∧ (∀ z ∈ ns, Builtin.Int.intBits z ≤ 1048576) ∧ ∀ H', Q (.bl true) H'
/-- a bound that every number of the script keeps, whose successor has one bit more -/
theorem boundK (K : Nat) (hK : 7 ≤ K) : ∃ B : Nat, 100 ≤ B ∧ (∀ n : Int, n.natAbs ≤ B + 1 → Builtin.Int.intBits n ≤ K + 1) ∧ ∀ n : Int, Builtin.Int.intBits n ≤ K → n.natAbs ≤ B := by
  have h7 : 2 ^ 7 ≤ 2 ^ K := Nat.pow_le_pow_right (by decide) hK
  have e7 : 2 ^ 7 = 128 := rfl
  refine ⟨2 ^ K - 1, by omega, fun n h => intBits_le_iff.mpr ?_, fun n h => ?_⟩
  · rw [Nat.pow_succ]; omega
  · have := intBits_le_iff.mp h; omega
section
variable {P : Program} {w : World} {K : PySem.W.Frag} {mg : Str → Option Value} {base : Heap}
theorem ok_law (hN : base.NoSeer) (hp : P.given.tree = none) (T : Txt K mg) : FnOk P w K mg base CX0 60 T.alaw T.dlaw Plaw (spLaw K) := by
  obtain ⟨B, hB, hBn, hBc⟩ := boundK 1048576 (by decide)
  have G_law_draws := ok_law_draws (P := P) (w := w) (base := base) T
  have G_law_cell := ok_law_cell (P := P) (w := w) (base := base) T
  have G_law_take := ok_law_take (P := P) (w := w) (base := base) T
  have G_law_names := ok_law_names (P := P) (w := w) (base := base) T
  have G_law_values := ok_law_values (P := P) (w := w) (base := base) hB T
  have G_law_of_two := ok_law_of_two (P := P) (w := w) hN hp T
  have G_law_of_tests := ok_law_of_tests (P := P) (w := w) hN hp T
  have G_law_replaced := ok_law_replaced (P := P) (w := w) (base := base) T 12
  have Gcheck_expression := ok_check_expression (P := P) (w := w) (base := base) T
  have Gnames_in := ok_names_in (P := P) (w := w) (base := base) T
  obtain ⟨G_law_expression, G_law_test⟩ := ok_ET (P := P) (w := w) (base := base) hB T 3
  obtain ⟨Gvalue_of, _⟩ := rd_values (P := P) (w := w) hN hp T 13
  refine T.Flaw.ok sclaw (fun vs H Q E h => ?_) (fun cdv A outer s H vs Q E hr h => ?_)
  · obtain ⟨a, ns, rfl, _⟩ := h
    rfl
  obtain ⟨a, ns, rfl, hS, hl, hbits, q⟩ := h
  refine ⟨_, (pss_cons (ps_set (i := 1) sclaw.nd rfl (Or.inl rfl) (pe_call G_law_draws (hr.mono (by omega)) (by rfl) T.m_law_draws T.F_law_draws.kp T.b_law_draws .nil pass0 (pa_cons (pv 0) (pa_cons pe_int pa_nil))))
    (pss_cons (ps_set (i := 2) sclaw.nd rfl (Or.inl rfl) (pe_call G_law_cell (hr.mono (by omega)) (by rfl) T.m_law_cell T.F_law_cell.kp T.b_law_cell .nil pass0 (pa_cons (pv 0) (pa_cons (pv 1) pa_nil))))
    (pss_cons (ps_set (i := 3) sclaw.nd rfl (Or.inl rfl) (pe_call G_law_names (hr.mono (by omega)) (by rfl) T.m_law_names T.F_law_names.kp T.b_law_names .nil pass0 (pa_cons (pv 1) (pa_cons pe_int pa_nil))))
    (pss_cons (ps_set (i := 4) sclaw.nd rfl (Or.inl rfl) (pe_call G_law_expression (hr.mono (by omega)) (by rfl) T.m_law_expression T.F_law_expression.kp T.b_law_expression .nil pass0 (pa_cons (pv 1) (pa_cons (pv 3) (pa_cons (pv 2) (pa_cons pe_int pa_nil))))))
    (pss_cons (ps_set (i := 5) sclaw.nd rfl (Or.inl rfl) (pe_call G_law_expression (hr.mono (by omega)) (by rfl) T.m_law_expression T.F_law_expression.kp T.b_law_expression .nil pass0 (pa_cons (pv 1) (pa_cons (pv 3) (pa_cons (pv 2) (pa_cons pe_int pa_nil))))))
    (pss_cons (ps_set (i := 6) sclaw.nd rfl (Or.inl rfl) (pe_call G_law_test (hr.mono (by omega)) (by rfl) T.m_law_test T.F_law_test.kp T.b_law_test .nil pass0 (pa_cons (pv 1) (pa_cons (pv 3) (pa_cons (pv 2) (pa_cons pe_int pa_nil))))))
    (pss_cons (ps_set (i := 7) sclaw.nd rfl (Or.inl rfl) (pe_call G_law_test (hr.mono (by omega)) (by rfl) T.m_law_test T.F_law_test.kp T.b_law_test .nil pass0 (pa_cons (pv 1) (pa_cons (pv 3) (pa_cons (pv 2) (pa_cons pe_int pa_nil))))))
    (pss_cons (ps_set (i := 8) sclaw.nd rfl (Or.inl rfl) (pe_op op_add pe_int (pe_ix ix_list (pe_lst (pa_cons (pe_call G_law_take (hr.mono (by omega)) (by rfl) T.m_law_take T.F_law_take.kp T.b_law_take .nil pass0 (pa_cons (pv 1) (pa_cons pe_int pa_nil))) (pa_cons (pe_callB (call_abs) (by rfl) T.z_abs (by decide +kernel) (pa_cons (pv 2) pa_nil)) pa_nil))) (pe_call G_law_take (hr.mono (by omega)) (by rfl) T.m_law_take T.F_law_take.kp T.b_law_take .nil pass0 (pa_cons (pv 1) (pa_cons pe_int pa_nil))) (fun _ _ => rfl))))
    (pss_cons (ps_for PassesOwn.never rfl (pi_range1 (by rfl) T.z_range (pa_cons pe_int pa_nil)) (pg_name (i := 9) sclaw.nd rfl (Or.inl rfl))
    (pss_cons (ps_set (i := 10) sclaw.nd rfl (Or.inl rfl) (pe_call G_law_values (hr.mono (by omega)) (by rfl) T.m_law_values T.F_law_values.kp T.b_law_values .nil pass0 (pa_cons (pv 1) (pa_cons (pv 3) (pa_cons (pv 2) pa_nil)))))
    (pss_cons (ps_if (PW.pt (pw_or (pt_not (pt_val (pe_call G_law_of_two (hr.mono (by omega)) (by rfl) T.m_law_of_two T.F_law_of_two.kp T.b_law_of_two .nil pass0 (pa_cons (pv 4) (pa_cons (pv 5) (pa_cons (pv 8) (pa_cons (pv 10) pa_nil))))))) (pw_or1 (pt_not (pt_val (pe_call G_law_of_tests (hr.mono (by omega)) (by rfl) T.m_law_of_tests T.F_law_of_tests.kp T.b_law_of_tests .nil pass0 (pa_cons (pv 6) (pa_cons (pv 7) (pa_cons (pv 4) (pa_cons (pv 5) (pa_cons (pv 10) pa_nil)))))))))))
    (pss_one (ps_ret pe_bl))
    pss_nil)
    (pss_one (ps_for PassesOwn.never rfl (pi_list (pe_lst (pa_cons (pv 4) (pa_cons (pv 5) (pa_cons (pe_tup (pa_cons pe_str (pa_cons (pv 6) (pa_cons (pv 4) (pa_cons (pv 5) pa_nil))))) pa_nil))))) (pg_name (i := 11) sclaw.nd rfl (Or.inl rfl))
    (pss_cons (ps_set (i := 12) sclaw.nd rfl (Or.inl rfl) (pe_call G_law_replaced (hr.mono (by omega)) (by rfl) T.m_law_replaced T.F_law_replaced.kp T.b_law_replaced .nil pass0 (pa_cons (pv 11) (pa_cons (pv 10) pa_nil))))
    (pss_cons (ps_if (PW.pt (pw_or (pt_cmpR op_notN (pe_call Gcheck_expression (hr.mono (by omega)) (by rfl) T.mcheck_expression T.Fcheck_expression.kp T.bcheck_expression .nil pass0 (pa_cons (pv 12) pa_nil)) pe_non (nomark _)) (pw_or1 (pt_cmpR (op_neD hr.units) (pe_call Gnames_in (hr.mono (by omega)) (by rfl) T.mnames_in T.Fnames_in.kp T.bnames_in .nil pass0 (pa_cons (pv 12) pa_nil)) (pe_tup pa_nil) (nomark _)))))
    (pss_one (ps_ret pe_bl))
    pss_nil)
    (pss_one (ps_if (PW.pt (pw_or (pt_cmpR op_ne (pe_call Gvalue_of (hr.mono (by omega)) (by rfl) T.mvalue_of T.Fvalue_of.kp T.bvalue_of .nil pass0 (pa_cons (pv 12) (pa_cons pe_dnewK pa_nil))) (pe_call Gvalue_of (hr.mono (by omega)) (by rfl) T.mvalue_of T.Fvalue_of.kp T.bvalue_of .nil pass0 (pa_cons (pv 11) (pa_cons (pv 10) pa_nil))) (nomark _)) (pw_or1 (pt_cmpR op_ne (pe_call Gvalue_of (hr.mono (by omega)) (by rfl) T.mvalue_of T.Fvalue_of.kp T.bvalue_of .nil pass0 (pa_cons (pv 12) (pa_cons (pv 10) pa_nil))) (pe_call Gvalue_of (hr.mono (by omega)) (by rfl) T.mvalue_of T.Fvalue_of.kp T.bvalue_of .nil pass0 (pa_cons (pv 11) (pa_cons (pv 10) pa_nil))) (nomark _)))))
    (pss_one (ps_ret pe_bl))
    pss_nil)))))))))
    (pss_one (ps_ret pe_bl))))))))))), ?_⟩
  refine ⟨_, rfl, a, ns, 490, rfl, hS, hl, by decide, by decide, fun d H1 s1 hd D1 => ?_⟩
  have hk := Keep.old hS hd s1
  refine ⟨_, rfl, _, rfl, a, d, ns, rfl, hk, D1, fun c H2 g2 hc0 => ?_⟩
  have hc : c.natAbs ≤ B := by
    rcases hc0 with h | h
    · rw [h]; exact Nat.zero_le _
    · exact hBc c (hbits c h)
  refine ⟨_, rfl, d, 4, rfl, g2.dr, by decide, by decide, fun n xs H4 g4 _ hn e4 hx hxl _ _ => ?_⟩
  have hkn : Keep K d H4 n (xs.map V.str) := .of hn e4
  have hxl64 : xs.length < 64 := by omega
  have hB2 : ∀ ρ : Str → Int, (∀ x ∈ xs, (ρ x).natAbs ≤ B) → Bs xs B 1048577 ρ := fun ρ h => ⟨hBn, fun x hx => hBn _ (Nat.le_trans (h x hx) (Nat.le_succ B)), by decide⟩
  refine ⟨_, rfl, _, rfl, _, rfl, d, n, xs, c, 2, rfl, g4.dr, hkn, hc, by decide, fun v1 i1 H5 g5 hi1 ho1 hd1 hs1 => ?_⟩
  refine ⟨_, rfl, _, rfl, _, rfl, d, n, xs, c, 2, rfl, g5.dr, hkn.go g5, hc, by decide, fun v2 i2 H6 g6 hi2 ho2 hd2 hs2 => ?_⟩
  have g46 := g5.trans g6
  refine ⟨_, rfl, _, rfl, _, rfl, d, n, xs, c, 2, rfl, g6.dr, hkn.go g46, hc, by decide, fun v3 i3 H7 g7 hi3 ho3 hd3 hs3 => ?_⟩
  have g47 := g46.trans g7
  refine ⟨_, rfl, _, rfl, _, rfl, d, n, xs, c, 2, rfl, g7.dr, hkn.go g47, hc, by decide, fun v4 i4 H8 g8 hi4 ho4 hd4 hs4 => ?_⟩
  have g48 := g47.trans g8
  have hd1' : i1.dep ≤ 5 := hd1
  have hd2' : i2.dep ≤ 5 := hd2
  have hd3' : i3.dep ≤ 6 := hd3
  have hd4' : i4.dep ≤ 6 := hd4
  have hs1' : i1.sz ≤ 41 := hs1
  have hs2' : i2.sz ≤ 41 := hs2
  have hs3' : i3.sz ≤ 223 := hs3
  -- n
  refine ⟨_, rfl, d, _, rfl, g8.dr, (by decide), fun t1 H9 g9 t0 t2 => ?_⟩
  refine ⟨_, rfl, _, rfl, (Nat.le_of_ble_eq_true rfl), fun p2 hp2 => ?_⟩
  have gp2 := fun o => Go.new (o := o) g9.dr hp2
  refine ⟨_, rfl, d, _, rfl, (gp2 _).dr, (by decide), fun u Ha ga u0 u1 => ?_⟩
  obtain ⟨n1, hn1, hm1⟩ := atI_map (f := V.int) (xs := [t1, if c < 0 then -c else c]) u0 u1
  have hb : 0 ≤ n1 ∧ n1.natAbs ≤ B := by
    simp only [List.mem_cons, List.not_mem_nil, or_false] at hm1
    rcases hm1 with h | h
    · omega
    · split at h <;> omega
  refine ⟨_, _, _, _, rfl, rfl, sqd (ga.at g9.dr hp2), hn1, _, _, rfl, rfl, ?_⟩
  have g8a := g9.trans ((gp2 _).trans ga)
  have g4a := g48.trans g8a
  have hi1a := hi1.go (g6.trans (g7.trans (g8.trans g8a))) g5.dr
  have hi2a := hi2.go (g7.trans (g8.trans g8a)) g6.dr
  have hi3a := hi3.go (g8.trans g8a) g7.dr
  have hi4a := hi4.go g8a g8.dr
  refine ⟨2, rfl, by decide, by decide, for_range (lo := 0) (n := 2) (fun (j : Nat) (σ : L2.St) (H' : Hp) => ∃ (y9 y10 y11 y12 : Option V), σ = [some (.ref a), some (.ref d), some (.int c), some (.ref n), some v1, some v2, some v3, some v4, some (.int (1 + n1)), y9, y10, y11, y12] ∧ Go d Ha H') ?_ ?_ ?_⟩
  · exact ⟨none, none, none, none, rfl, Go.refl ga.dr⟩
  · rintro j σ Hb hj ⟨y9, y10, y11, y12, rfl, gb⟩
    refine ⟨_, rfl, _, rfl, _, rfl, d, n, xs, c, rfl, gb.dr, hkn.go (g4a.trans gb), hc, by omega, fun pv1 kvs ρ Hc gc hpv ec hC hρ => ?_⟩
    have gac := gb.trans gc
    have bs := hB2 ρ fun x hx => (hρ x hx).2
    have en : EnvIn Hc pv1 ρ xs := ⟨kvs, ec, fun x hx => (hρ x hx).1⟩
    have sz : 1048577 * 127 ≤ 134217728 := by decide
    have du1 : Duo xs B 1048577 ρ i1 i2 false := ⟨ho1, ho2, by omega, by omega, bs, sz⟩
    have du2 : Duo xs B 1048577 ρ i3 i4 true := ⟨ho3, ho4, by omega, by omega, bs, sz⟩
    refine ⟨_, rfl, _, rfl, _, rfl, _, rfl, v1, v2, pv1, i1, i2, xs, B, 1048577, ρ, 1 + n1, rfl, hi1a.go gac ga.dr, hi2a.go gac ga.dr, du1, en, by omega, by omega, fun Hd sd => ⟨true, rfl, iteF ?_⟩⟩
    have gad := gac.trans (Go.same gc.dr sd)
    refine ⟨_, rfl, _, rfl, _, rfl, _, rfl, _, rfl, v3, v4, v1, v2, pv1, i3, i4, i1, i2, xs, B, 1048577, ρ, rfl, hi3a.go gad ga.dr, hi4a.go gad ga.dr, hi1a.go gad ga.dr, hi2a.go gad ga.dr, du2, du1, en.same sd, fun He se => ⟨true, rfl, iteF ?_⟩⟩
    have gae := gad.trans (Go.same gad.dr se)
    refine ⟨_, rfl, _, rfl, _, rfl, _, rfl, _, rfl, (Nat.le_of_ble_eq_true rfl), fun p5 hp5 => ⟨(Nat.le_of_ble_eq_true rfl), fun lp hlp => ?_⟩⟩
    have m5 := fun o => same_new hp5 o
    have ml := fun o => same_new hlp o
    have gaf := fun o => (gae.trans (Go.same gae.dr (m5 (.tup [.str "if", v3, v1, v2])))).trans (Go.same (gae.trans (Go.same gae.dr (m5 (.tup [.str "if", v3, v1, v2])))).dr (ml o))
    have enf := fun o => ((en.same sd).same se).same ((m5 (.tup [.str "if", v3, v1, v2])).trans (ml o))
    have hl3 : ∀ x ∈ [v1, v2, V.ref p5], ∃ i, ItemIn (upd (upd He p5 (.tup [.str "if", v3, v1, v2])) lp (.lst [v1, v2, .ref p5])) i x ∧ Okx xs B false i ∧ i.dep ≤ 7 ∧ i.mx ≤ 64 ∧ i.sz ≤ 1000 := by
      intro x hx
      have q1 := mx_dep i1
      have q2 := mx_dep i2
      have q3 := mx_dep i3
      have r1 := two_mono (show i1.dep ≤ 6 by omega)
      have r2 := two_mono (show i2.dep ≤ 6 by omega)
      have r3 := two_mono (show i3.dep ≤ 6 by omega)
      have e64 : 2 ^ 6 = 64 := rfl
      simp only [List.mem_cons, List.not_mem_nil, or_false] at hx
      rcases hx with h | h | h
      · rw [h]; exact ⟨i1, hi1a.go (gaf _) ga.dr, ho1, by omega, by omega, by omega⟩
      · rw [h]; exact ⟨i2, hi2a.go (gaf _) ga.dr, ho2, by omega, by omega, by omega⟩
      · rw [h]; exact ⟨.tri i3 i1 i2, .tri (ml _ _ _ upd_same) (hi3a.go (gaf _) ga.dr) (hi1a.go (gaf _) ga.dr) (hi2a.go (gaf _) ga.dr), .tri ho3 ho1 ho2, by simp only [It.dep]; omega, by simp only [It.mx]; omega, by simp only [It.sz]; omega⟩
    refine ⟨lp, rfl, ⟨_, sqd upd_same⟩, for_list (K := K) (a := lp) (xs := [v1, v2, .ref p5]) (fun (m : Nat) (σ : L2.St) (H' : Hp) => ∃ (y11 y12 : Option V), σ = [some (.ref a), some (.ref d), some (.int c), some (.ref n), some v1, some v2, some v3, some v4, some (.int (1 + n1)), some (.int (0 + (j : Int))), some (.ref pv1), y11, y12] ∧ Same (upd (upd He p5 (.tup [.str "if", v3, v1, v2])) lp (.lst [v1, v2, .ref p5])) H') ?_ ?_ ?_ ?_⟩
    · exact ⟨_, _, rfl, Same.refl _⟩
    · rintro m σ H' _ ⟨y11, y12, rfl, sg⟩
      exact sqd (sg _ _ upd_same)
    · rintro m x σ Hg hx ⟨y11, y12, rfl, sg⟩
      obtain ⟨i, hi, ho, hdp, hm, hz⟩ := hl3 x (List.mem_of_getElem? hx)
      have hi' := hi.mono (Tp.same sg)
      have en' := (enf _).same sg
      have hρB : ∀ x ∈ xs, (ρ x).natAbs ≤ B := fun x hx => (hρ x hx).2
      obtain ⟨z1, z2, z3, z4⟩ := rep_sz ρ i
      have ho' := rep_ok hρB ho
      refine ⟨_, rfl, _, rfl, x, pv1, i, xs, B, false, ρ, rfl, hi', ho, by omega, en', fun u Hh sh hu => ?_⟩
      refine ⟨_, rfl, u, i.rep ρ, B, false, rfl, hu, ho', by omega, fun Hi si => ?_⟩
      refine ⟨rfl, _, rfl, ?_⟩
      refine ifF (by rw [decide_eq_true rfl] <;> rfl) ?_
      refine ⟨_, rfl, u, i.rep ρ, [], B, false, rfl, hu.mono (Tp.same si), ⟨ho', by omega, by omega⟩, (Nat.le_of_ble_eq_true rfl), fun p ns Hj sj hpj ej al => ?_⟩
      have ens := al.none z4
      subst ens
      refine ⟨(Nat.le_of_ble_eq_true rfl), fun t ht => ?_⟩
      refine ⟨.tuple [], .tuple [], .tup (sqt (same_new ht _ _ _ ej)) .nil, .tup (sqt upd_same) .nil, rfl, rfl, _, rfl, ?_⟩
      refine ifF rfl ?_
      have shk := fun o => (si.trans sj).trans (same_new ht o)
      have huk := fun o => hu.mono (Tp.same (shk o))
      -- no values
      have b0 : ∀ τ : Str → Int, Bs [] B 1048577 τ := fun τ => ⟨hBn, (fun x hx => nomatch hx), (by decide)⟩
      refine ⟨_, rfl, fun pz hpz => ?_⟩
      have sz1 := fun o => same_new hpz o
      have en0 : EnvIn (upd (upd Hj t (.tup [])) pz (.dK [])) pz ρ [] := ⟨[], upd_same, (fun x hx => nomatch hx)⟩
      refine ⟨u, pz, i.rep ρ, [], B, 1048577, ρ, rfl, ev_of ((huk _).mono (Tp.same (sz1 _))) ho' (by omega) (by omega) (b0 ρ) sz en0, fun Hl sl => ?_⟩
      have sgl := sh.trans ((shk _).trans ((sz1 _).trans sl))
      refine ⟨_, rfl, _, rfl, x, pv1, i, xs, B, 1048577, ρ, rfl, ev_of (hi'.mono (Tp.same sgl)) ho (by omega) (by omega) bs sz (en'.same sgl), fun Hm sm => ?_⟩
      refine ⟨rfl, _, rfl, ?_⟩
      refine ifF (neF (rep_ev ρ ρ i).1) ?_
      have sgm := sgl.trans sm
      have hum := ((huk _).mono (Tp.same (sz1 _))).mono (Tp.same (sl.trans sm))
      have enm := en'.same sgm
      have en00 : EnvIn Hm pv1 ρ [] := ⟨_, enm.choose_spec.1, (fun x hx => nomatch hx)⟩
      refine ⟨_, rfl, _, rfl, u, pv1, i.rep ρ, [], B, 1048577, ρ, rfl, ev_of hum ho' (by omega) (by omega) (b0 ρ) sz en00, fun Hn sn => ?_⟩
      refine ⟨_, rfl, _, rfl, x, pv1, i, xs, B, 1048577, ρ, rfl, ev_of (hi'.mono (Tp.same (sgm.trans sn))) ho (by omega) (by omega) bs sz (enm.same sn), fun Ho so => ?_⟩
      refine ⟨rfl, _, rfl, ?_⟩
      refine ifF (neF (rep_ev ρ ρ i).1) ?_
      exact ⟨_, _, rfl, sg.trans ((sgm.trans sn).trans so)⟩
    · rintro σ Hg ⟨y11, y12, rfl, sg⟩
      exact ⟨_, _, _, _, rfl, (gaf _).trans (Go.same (gaf _).dr sg)⟩
  · rintro σ Hb ⟨y9, y10, y11, y12, rfl, gb⟩
    exact q Hb
end
end NL

namespace NL
open PySem PySem.Spec PyProof.Rows L2
theorem all_mk {l : PySem.W.OpenLaw} {w : World} {K : PySem.W.Frag} {h : Heap} {mg : Str → Option Value} {fa frun_end fis_name fparts_in fcheck_expression f_check fvalue_of f_value_of_two fholds fnames_in f_all_names f_law_draws f_law_take f_law_cell f_law_word f_law_some_word f_law_reserved f_law_name f_law_names f_law_number f_law_leaf f_law_expression f_law_test f_law_values f_law_replaced f_law_of_two f_law_of_tests flaw : Addr} (hp : l.prog.given.tree = none) (X : K.In h) (G : h.Ns mainGlobals mg) (hfa : mg "law" = some (.ref fa))
    {odrun_end anrun_end : Option Addr} {slrun_end : Array (Option Value)} {ocrun_end kVrun_end dcrun_end pmrun_end cdrun_end ctrun_end : Value}
    {odis_name anis_name : Option Addr} {slis_name : Array (Option Value)} {ocis_name kVis_name dcis_name pmis_name cdis_name ctis_name : Value}
    {odparts_in anparts_in : Option Addr} {slparts_in : Array (Option Value)} {ocparts_in kVparts_in dcparts_in pmparts_in cdparts_in ctparts_in : Value}
    {odcheck_expression ancheck_expression : Option Addr} {slcheck_expression : Array (Option Value)} {occheck_expression kVcheck_expression dccheck_expression pmcheck_expression cdcheck_expression ctcheck_expression : Value}
    {od_check an_check : Option Addr} {sl_check : Array (Option Value)} {oc_check kV_check dc_check pm_check cd_check ct_check : Value}
    {odvalue_of anvalue_of : Option Addr} {slvalue_of : Array (Option Value)} {ocvalue_of kVvalue_of dcvalue_of pmvalue_of cdvalue_of ctvalue_of : Value}
    {od_value_of_two an_value_of_two : Option Addr} {sl_value_of_two : Array (Option Value)} {oc_value_of_two kV_value_of_two dc_value_of_two pm_value_of_two cd_value_of_two ct_value_of_two : Value}
    {odholds anholds : Option Addr} {slholds : Array (Option Value)} {ocholds kVholds dcholds pmholds cdholds ctholds : Value}
    {odnames_in annames_in : Option Addr} {slnames_in : Array (Option Value)} {ocnames_in kVnames_in dcnames_in pmnames_in cdnames_in ctnames_in : Value}
    {od_all_names an_all_names : Option Addr} {sl_all_names : Array (Option Value)} {oc_all_names kV_all_names dc_all_names pm_all_names cd_all_names ct_all_names : Value}
    {od_law_draws an_law_draws : Option Addr} {sl_law_draws : Array (Option Value)} {oc_law_draws kV_law_draws dc_law_draws pm_law_draws cd_law_draws ct_law_draws : Value}
    {od_law_take an_law_take : Option Addr} {sl_law_take : Array (Option Value)} {oc_law_take kV_law_take dc_law_take pm_law_take cd_law_take ct_law_take : Value}
    {od_law_cell an_law_cell : Option Addr} {sl_law_cell : Array (Option Value)} {oc_law_cell kV_law_cell dc_law_cell pm_law_cell cd_law_cell ct_law_cell : Value}
    {od_law_word an_law_word : Option Addr} {sl_law_word : Array (Option Value)} {oc_law_word kV_law_word dc_law_word pm_law_word cd_law_word ct_law_word : Value}
    {od_law_some_word an_law_some_word : Option Addr} {sl_law_some_word : Array (Option Value)} {oc_law_some_word kV_law_some_word dc_law_some_word pm_law_some_word cd_law_some_word ct_law_some_word : Value}
    {od_law_reserved an_law_reserved : Option Addr} {sl_law_reserved : Array (Option Value)} {oc_law_reserved kV_law_reserved dc_law_reserved pm_law_reserved cd_law_reserved ct_law_reserved : Value}
    {od_law_name an_law_name : Option Addr} {sl_law_name : Array (Option Value)} {oc_law_name kV_law_name dc_law_name pm_law_name cd_law_name ct_law_name : Value}
    {od_law_names an_law_names : Option Addr} {sl_law_names : Array (Option Value)} {oc_law_names kV_law_names dc_law_names pm_law_names cd_law_names ct_law_names : Value}
    {od_law_number an_law_number : Option Addr} {sl_law_number : Array (Option Value)} {oc_law_number kV_law_number dc_law_number pm_law_number cd_law_number ct_law_number : Value}
    {od_law_leaf an_law_leaf : Option Addr} {sl_law_leaf : Array (Option Value)} {oc_law_leaf kV_law_leaf dc_law_leaf pm_law_leaf cd_law_leaf ct_law_leaf : Value}
    {od_law_expression an_law_expression : Option Addr} {sl_law_expression : Array (Option Value)} {oc_law_expression kV_law_expression dc_law_expression pm_law_expression cd_law_expression ct_law_expression : Value}
    {od_law_test an_law_test : Option Addr} {sl_law_test : Array (Option Value)} {oc_law_test kV_law_test dc_law_test pm_law_test cd_law_test ct_law_test : Value}
    {od_law_values an_law_values : Option Addr} {sl_law_values : Array (Option Value)} {oc_law_values kV_law_values dc_law_values pm_law_values cd_law_values ct_law_values : Value}
    {od_law_replaced an_law_replaced : Option Addr} {sl_law_replaced : Array (Option Value)} {oc_law_replaced kV_law_replaced dc_law_replaced pm_law_replaced cd_law_replaced ct_law_replaced : Value}
    {od_law_of_two an_law_of_two : Option Addr} {sl_law_of_two : Array (Option Value)} {oc_law_of_two kV_law_of_two dc_law_of_two pm_law_of_two cd_law_of_two ct_law_of_two : Value}
    {od_law_of_tests an_law_of_tests : Option Addr} {sl_law_of_tests : Array (Option Value)} {oc_law_of_tests kV_law_of_tests dc_law_of_tests pm_law_of_tests cd_law_of_tests ct_law_of_tests : Value}
    {odlaw anlaw : Option Addr} {sllaw : Array (Option Value)} {oclaw kVlaw dclaw pmlaw cdlaw ctlaw : Value}
    {u_LETTERS : Value}
    {c_WORDS : Addr}
    {u_MOST_DEPTH : Value}
    (arun_end : PySem.W.nsIn K mainGlobals "run_end" = some (some (.ref frun_end))) (lrun_end : K.lookup frun_end = some ⟨ocrun_end, odrun_end, .func (PySem.W.fnOf "run_end" "run_end" (defArgs srun_end) (defBody srun_end) (defScope srun_end) .none kVrun_end dcrun_end pmrun_end anrun_end cdrun_end ctrun_end), slrun_end⟩) (crun_end : PySem.W.codeIn K cdrun_end "run_end" = true) (krun_end : PySem.W.keepIn K (.ref frun_end) = true)
    (ais_name : PySem.W.nsIn K mainGlobals "is_name" = some (some (.ref fis_name))) (lis_name : K.lookup fis_name = some ⟨ocis_name, odis_name, .func (PySem.W.fnOf "is_name" "is_name" (defArgs sis_name) (defBody sis_name) (defScope sis_name) .none kVis_name dcis_name pmis_name anis_name cdis_name ctis_name), slis_name⟩) (cis_name : PySem.W.codeIn K cdis_name "is_name" = true) (kis_name : PySem.W.keepIn K (.ref fis_name) = true)
    (aparts_in : PySem.W.nsIn K mainGlobals "parts_in" = some (some (.ref fparts_in))) (lparts_in : K.lookup fparts_in = some ⟨ocparts_in, odparts_in, .func (PySem.W.fnOf "parts_in" "parts_in" (defArgs sparts_in) (defBody sparts_in) (defScope sparts_in) .none kVparts_in dcparts_in pmparts_in anparts_in cdparts_in ctparts_in), slparts_in⟩) (cparts_in : PySem.W.codeIn K cdparts_in "parts_in" = true) (kparts_in : PySem.W.keepIn K (.ref fparts_in) = true)
    (acheck_expression : PySem.W.nsIn K mainGlobals "check_expression" = some (some (.ref fcheck_expression))) (lcheck_expression : K.lookup fcheck_expression = some ⟨occheck_expression, odcheck_expression, .func (PySem.W.fnOf "check_expression" "check_expression" (defArgs scheck_expression) (defBody scheck_expression) (defScope scheck_expression) .none kVcheck_expression dccheck_expression pmcheck_expression ancheck_expression cdcheck_expression ctcheck_expression), slcheck_expression⟩) (ccheck_expression : PySem.W.codeIn K cdcheck_expression "check_expression" = true) (kcheck_expression : PySem.W.keepIn K (.ref fcheck_expression) = true)
    (a_check : PySem.W.nsIn K mainGlobals "_check" = some (some (.ref f_check))) (l_check : K.lookup f_check = some ⟨oc_check, od_check, .func (PySem.W.fnOf "_check" "_check" (defArgs s_check) (defBody s_check) (defScope s_check) .none kV_check dc_check pm_check an_check cd_check ct_check), sl_check⟩) (c_check : PySem.W.codeIn K cd_check "_check" = true) (k_check : PySem.W.keepIn K (.ref f_check) = true)
    (avalue_of : PySem.W.nsIn K mainGlobals "value_of" = some (some (.ref fvalue_of))) (lvalue_of : K.lookup fvalue_of = some ⟨ocvalue_of, odvalue_of, .func (PySem.W.fnOf "value_of" "value_of" (defArgs svalue_of) (defBody svalue_of) (defScope svalue_of) .none kVvalue_of dcvalue_of pmvalue_of anvalue_of cdvalue_of ctvalue_of), slvalue_of⟩) (cvalue_of : PySem.W.codeIn K cdvalue_of "value_of" = true) (kvalue_of : PySem.W.keepIn K (.ref fvalue_of) = true)
    (a_value_of_two : PySem.W.nsIn K mainGlobals "_value_of_two" = some (some (.ref f_value_of_two))) (l_value_of_two : K.lookup f_value_of_two = some ⟨oc_value_of_two, od_value_of_two, .func (PySem.W.fnOf "_value_of_two" "_value_of_two" (defArgs s_value_of_two) (defBody s_value_of_two) (defScope s_value_of_two) .none kV_value_of_two dc_value_of_two pm_value_of_two an_value_of_two cd_value_of_two ct_value_of_two), sl_value_of_two⟩) (c_value_of_two : PySem.W.codeIn K cd_value_of_two "_value_of_two" = true) (k_value_of_two : PySem.W.keepIn K (.ref f_value_of_two) = true)
    (aholds : PySem.W.nsIn K mainGlobals "holds" = some (some (.ref fholds))) (lholds : K.lookup fholds = some ⟨ocholds, odholds, .func (PySem.W.fnOf "holds" "holds" (defArgs sholds) (defBody sholds) (defScope sholds) .none kVholds dcholds pmholds anholds cdholds ctholds), slholds⟩) (cholds : PySem.W.codeIn K cdholds "holds" = true) (kholds : PySem.W.keepIn K (.ref fholds) = true)
    (anames_in : PySem.W.nsIn K mainGlobals "names_in" = some (some (.ref fnames_in))) (lnames_in : K.lookup fnames_in = some ⟨ocnames_in, odnames_in, .func (PySem.W.fnOf "names_in" "names_in" (defArgs snames_in) (defBody snames_in) (defScope snames_in) .none kVnames_in dcnames_in pmnames_in annames_in cdnames_in ctnames_in), slnames_in⟩) (cnames_in : PySem.W.codeIn K cdnames_in "names_in" = true) (knames_in : PySem.W.keepIn K (.ref fnames_in) = true)
    (a_all_names : PySem.W.nsIn K mainGlobals "_all_names" = some (some (.ref f_all_names))) (l_all_names : K.lookup f_all_names = some ⟨oc_all_names, od_all_names, .func (PySem.W.fnOf "_all_names" "_all_names" (defArgs s_all_names) (defBody s_all_names) (defScope s_all_names) .none kV_all_names dc_all_names pm_all_names an_all_names cd_all_names ct_all_names), sl_all_names⟩) (c_all_names : PySem.W.codeIn K cd_all_names "_all_names" = true) (k_all_names : PySem.W.keepIn K (.ref f_all_names) = true)
    (a_law_draws : PySem.W.nsIn K mainGlobals "_law_draws" = some (some (.ref f_law_draws))) (l_law_draws : K.lookup f_law_draws = some ⟨oc_law_draws, od_law_draws, .func (PySem.W.fnOf "_law_draws" "_law_draws" (defArgs s_law_draws) (defBody s_law_draws) (defScope s_law_draws) .none kV_law_draws dc_law_draws pm_law_draws an_law_draws cd_law_draws ct_law_draws), sl_law_draws⟩) (c_law_draws : PySem.W.codeIn K cd_law_draws "_law_draws" = true) (k_law_draws : PySem.W.keepIn K (.ref f_law_draws) = true)
    (a_law_take : PySem.W.nsIn K mainGlobals "_law_take" = some (some (.ref f_law_take))) (l_law_take : K.lookup f_law_take = some ⟨oc_law_take, od_law_take, .func (PySem.W.fnOf "_law_take" "_law_take" (defArgs s_law_take) (defBody s_law_take) (defScope s_law_take) .none kV_law_take dc_law_take pm_law_take an_law_take cd_law_take ct_law_take), sl_law_take⟩) (c_law_take : PySem.W.codeIn K cd_law_take "_law_take" = true) (k_law_take : PySem.W.keepIn K (.ref f_law_take) = true)
    (a_law_cell : PySem.W.nsIn K mainGlobals "_law_cell" = some (some (.ref f_law_cell))) (l_law_cell : K.lookup f_law_cell = some ⟨oc_law_cell, od_law_cell, .func (PySem.W.fnOf "_law_cell" "_law_cell" (defArgs s_law_cell) (defBody s_law_cell) (defScope s_law_cell) .none kV_law_cell dc_law_cell pm_law_cell an_law_cell cd_law_cell ct_law_cell), sl_law_cell⟩) (c_law_cell : PySem.W.codeIn K cd_law_cell "_law_cell" = true) (k_law_cell : PySem.W.keepIn K (.ref f_law_cell) = true)
    (a_law_word : PySem.W.nsIn K mainGlobals "_law_word" = some (some (.ref f_law_word))) (l_law_word : K.lookup f_law_word = some ⟨oc_law_word, od_law_word, .func (PySem.W.fnOf "_law_word" "_law_word" (defArgs s_law_word) (defBody s_law_word) (defScope s_law_word) .none kV_law_word dc_law_word pm_law_word an_law_word cd_law_word ct_law_word), sl_law_word⟩) (c_law_word : PySem.W.codeIn K cd_law_word "_law_word" = true) (k_law_word : PySem.W.keepIn K (.ref f_law_word) = true)
    (a_law_some_word : PySem.W.nsIn K mainGlobals "_law_some_word" = some (some (.ref f_law_some_word))) (l_law_some_word : K.lookup f_law_some_word = some ⟨oc_law_some_word, od_law_some_word, .func (PySem.W.fnOf "_law_some_word" "_law_some_word" (defArgs s_law_some_word) (defBody s_law_some_word) (defScope s_law_some_word) .none kV_law_some_word dc_law_some_word pm_law_some_word an_law_some_word cd_law_some_word ct_law_some_word), sl_law_some_word⟩) (c_law_some_word : PySem.W.codeIn K cd_law_some_word "_law_some_word" = true) (k_law_some_word : PySem.W.keepIn K (.ref f_law_some_word) = true)
    (a_law_reserved : PySem.W.nsIn K mainGlobals "_law_reserved" = some (some (.ref f_law_reserved))) (l_law_reserved : K.lookup f_law_reserved = some ⟨oc_law_reserved, od_law_reserved, .func (PySem.W.fnOf "_law_reserved" "_law_reserved" (defArgs s_law_reserved) (defBody s_law_reserved) (defScope s_law_reserved) .none kV_law_reserved dc_law_reserved pm_law_reserved an_law_reserved cd_law_reserved ct_law_reserved), sl_law_reserved⟩) (c_law_reserved : PySem.W.codeIn K cd_law_reserved "_law_reserved" = true) (k_law_reserved : PySem.W.keepIn K (.ref f_law_reserved) = true)
    (a_law_name : PySem.W.nsIn K mainGlobals "_law_name" = some (some (.ref f_law_name))) (l_law_name : K.lookup f_law_name = some ⟨oc_law_name, od_law_name, .func (PySem.W.fnOf "_law_name" "_law_name" (defArgs s_law_name) (defBody s_law_name) (defScope s_law_name) .none kV_law_name dc_law_name pm_law_name an_law_name cd_law_name ct_law_name), sl_law_name⟩) (c_law_name : PySem.W.codeIn K cd_law_name "_law_name" = true) (k_law_name : PySem.W.keepIn K (.ref f_law_name) = true)
    (a_law_names : PySem.W.nsIn K mainGlobals "_law_names" = some (some (.ref f_law_names))) (l_law_names : K.lookup f_law_names = some ⟨oc_law_names, od_law_names, .func (PySem.W.fnOf "_law_names" "_law_names" (defArgs s_law_names) (defBody s_law_names) (defScope s_law_names) .none kV_law_names dc_law_names pm_law_names an_law_names cd_law_names ct_law_names), sl_law_names⟩) (c_law_names : PySem.W.codeIn K cd_law_names "_law_names" = true) (k_law_names : PySem.W.keepIn K (.ref f_law_names) = true)
    (a_law_number : PySem.W.nsIn K mainGlobals "_law_number" = some (some (.ref f_law_number))) (l_law_number : K.lookup f_law_number = some ⟨oc_law_number, od_law_number, .func (PySem.W.fnOf "_law_number" "_law_number" (defArgs s_law_number) (defBody s_law_number) (defScope s_law_number) .none kV_law_number dc_law_number pm_law_number an_law_number cd_law_number ct_law_number), sl_law_number⟩) (c_law_number : PySem.W.codeIn K cd_law_number "_law_number" = true) (k_law_number : PySem.W.keepIn K (.ref f_law_number) = true)
    (a_law_leaf : PySem.W.nsIn K mainGlobals "_law_leaf" = some (some (.ref f_law_leaf))) (l_law_leaf : K.lookup f_law_leaf = some ⟨oc_law_leaf, od_law_leaf, .func (PySem.W.fnOf "_law_leaf" "_law_leaf" (defArgs s_law_leaf) (defBody s_law_leaf) (defScope s_law_leaf) .none kV_law_leaf dc_law_leaf pm_law_leaf an_law_leaf cd_law_leaf ct_law_leaf), sl_law_leaf⟩) (c_law_leaf : PySem.W.codeIn K cd_law_leaf "_law_leaf" = true) (k_law_leaf : PySem.W.keepIn K (.ref f_law_leaf) = true)
    (a_law_expression : PySem.W.nsIn K mainGlobals "_law_expression" = some (some (.ref f_law_expression))) (l_law_expression : K.lookup f_law_expression = some ⟨oc_law_expression, od_law_expression, .func (PySem.W.fnOf "_law_expression" "_law_expression" (defArgs s_law_expression) (defBody s_law_expression) (defScope s_law_expression) .none kV_law_expression dc_law_expression pm_law_expression an_law_expression cd_law_expression ct_law_expression), sl_law_expression⟩) (c_law_expression : PySem.W.codeIn K cd_law_expression "_law_expression" = true) (k_law_expression : PySem.W.keepIn K (.ref f_law_expression) = true)
    (a_law_test : PySem.W.nsIn K mainGlobals "_law_test" = some (some (.ref f_law_test))) (l_law_test : K.lookup f_law_test = some ⟨oc_law_test, od_law_test, .func (PySem.W.fnOf "_law_test" "_law_test" (defArgs s_law_test) (defBody s_law_test) (defScope s_law_test) .none kV_law_test dc_law_test pm_law_test an_law_test cd_law_test ct_law_test), sl_law_test⟩) (c_law_test : PySem.W.codeIn K cd_law_test "_law_test" = true) (k_law_test : PySem.W.keepIn K (.ref f_law_test) = true)
    (a_law_values : PySem.W.nsIn K mainGlobals "_law_values" = some (some (.ref f_law_values))) (l_law_values : K.lookup f_law_values = some ⟨oc_law_values, od_law_values, .func (PySem.W.fnOf "_law_values" "_law_values" (defArgs s_law_values) (defBody s_law_values) (defScope s_law_values) .none kV_law_values dc_law_values pm_law_values an_law_values cd_law_values ct_law_values), sl_law_values⟩) (c_law_values : PySem.W.codeIn K cd_law_values "_law_values" = true) (k_law_values : PySem.W.keepIn K (.ref f_law_values) = true)
    (a_law_replaced : PySem.W.nsIn K mainGlobals "_law_replaced" = some (some (.ref f_law_replaced))) (l_law_replaced : K.lookup f_law_replaced = some ⟨oc_law_replaced, od_law_replaced, .func (PySem.W.fnOf "_law_replaced" "_law_replaced" (defArgs s_law_replaced) (defBody s_law_replaced) (defScope s_law_replaced) .none kV_law_replaced dc_law_replaced pm_law_replaced an_law_replaced cd_law_replaced ct_law_replaced), sl_law_replaced⟩) (c_law_replaced : PySem.W.codeIn K cd_law_replaced "_law_replaced" = true) (k_law_replaced : PySem.W.keepIn K (.ref f_law_replaced) = true)
    (a_law_of_two : PySem.W.nsIn K mainGlobals "_law_of_two" = some (some (.ref f_law_of_two))) (l_law_of_two : K.lookup f_law_of_two = some ⟨oc_law_of_two, od_law_of_two, .func (PySem.W.fnOf "_law_of_two" "_law_of_two" (defArgs s_law_of_two) (defBody s_law_of_two) (defScope s_law_of_two) .none kV_law_of_two dc_law_of_two pm_law_of_two an_law_of_two cd_law_of_two ct_law_of_two), sl_law_of_two⟩) (c_law_of_two : PySem.W.codeIn K cd_law_of_two "_law_of_two" = true) (k_law_of_two : PySem.W.keepIn K (.ref f_law_of_two) = true)
    (a_law_of_tests : PySem.W.nsIn K mainGlobals "_law_of_tests" = some (some (.ref f_law_of_tests))) (l_law_of_tests : K.lookup f_law_of_tests = some ⟨oc_law_of_tests, od_law_of_tests, .func (PySem.W.fnOf "_law_of_tests" "_law_of_tests" (defArgs s_law_of_tests) (defBody s_law_of_tests) (defScope s_law_of_tests) .none kV_law_of_tests dc_law_of_tests pm_law_of_tests an_law_of_tests cd_law_of_tests ct_law_of_tests), sl_law_of_tests⟩) (c_law_of_tests : PySem.W.codeIn K cd_law_of_tests "_law_of_tests" = true) (k_law_of_tests : PySem.W.keepIn K (.ref f_law_of_tests) = true)
    (alaw : PySem.W.nsIn K mainGlobals "law" = some (some (.ref flaw))) (llaw : K.lookup flaw = some ⟨oclaw, odlaw, .func (PySem.W.fnOf "law" "law" (defArgs slaw) (defBody slaw) (defScope slaw) .none kVlaw dclaw pmlaw anlaw cdlaw ctlaw), sllaw⟩) (claw : PySem.W.codeIn K cdlaw "law" = true) (klaw : PySem.W.keepIn K (.ref flaw) = true)
    (g_LETTERS : PySem.W.nsIn K mainGlobals "LETTERS" = some (some u_LETTERS)) (r_LETTERS : L2.RelV (.str "abcdefghijklmnopqrstuvwxyz") u_LETTERS)
    (g_WORDS : PySem.W.nsIn K mainGlobals "WORDS" = some (some (.ref c_WORDS))) (k_WORDS : KT K c_WORDS [(.str "true"), (.str "false"), (.str "add"), (.str "sub"), (.str "mul"), (.str "div"), (.str "mod"), (.str "min"), (.str "max"), (.str "abs"), (.str "if"), (.str "less"), (.str "equal"), (.str "not"), (.str "all"), (.str "any")])
    (g_MOST_DEPTH : PySem.W.nsIn K mainGlobals "MOST_DEPTH" = some (some u_MOST_DEPTH)) (r_MOST_DEPTH : L2.RelV (.int 12) u_MOST_DEPTH)
    (z_abs : PySem.W.nsIn K mainGlobals "abs" = some none)
    (z_all : PySem.W.nsIn K mainGlobals "all" = some none)
    (z_any : PySem.W.nsIn K mainGlobals "any" = some none)
    (z_int : PySem.W.nsIn K mainGlobals "int" = some none)
    (z_len : PySem.W.nsIn K mainGlobals "len" = some none)
    (z_list : PySem.W.nsIn K mainGlobals "list" = some none)
    (z_max : PySem.W.nsIn K mainGlobals "max" = some none)
    (z_min : PySem.W.nsIn K mainGlobals "min" = some none)
    (z_range : PySem.W.nsIn K mainGlobals "range" = some none)
    (z_set : PySem.W.nsIn K mainGlobals "set" = some none)
    (z_sorted : PySem.W.nsIn K mainGlobals "sorted" = some none)
    (z_tuple : PySem.W.nsIn K mainGlobals "tuple" = some none)
    : ∃ fd : FuncData, (∀ (s : Shared) (v : Value), BindsTo s fd ⟨[v], []⟩ [("script", v)]) ∧ ∀ base : Heap, K.In base → base.Ns mainGlobals mg → base.NoSeer → FnOk l.prog w K mg base CX0 60 fa fd ["script"] (spLaw K) := by
  have e := hfa.symm.trans (PySem.W.mg_of X G alaw)
  cases e
  let T : Txt K mg := {
    z_abs := PySem.W.mg_none_of X G z_abs
    z_all := PySem.W.mg_none_of X G z_all
    z_any := PySem.W.mg_none_of X G z_any
    z_int := PySem.W.mg_none_of X G z_int
    z_len := PySem.W.mg_none_of X G z_len
    z_list := PySem.W.mg_none_of X G z_list
    z_max := PySem.W.mg_none_of X G z_max
    z_min := PySem.W.mg_none_of X G z_min
    z_range := PySem.W.mg_none_of X G z_range
    z_set := PySem.W.mg_none_of X G z_set
    z_sorted := PySem.W.mg_none_of X G z_sorted
    z_tuple := PySem.W.mg_none_of X G z_tuple
    u_LETTERS := u_LETTERS
    g_LETTERS := PySem.W.mg_of X G g_LETTERS
    r_LETTERS := r_LETTERS
    c_WORDS := c_WORDS
    g_WORDS := PySem.W.mg_of X G g_WORDS
    k_WORDS := k_WORDS
    u_MOST_DEPTH := u_MOST_DEPTH
    g_MOST_DEPTH := PySem.W.mg_of X G g_MOST_DEPTH
    r_MOST_DEPTH := r_MOST_DEPTH
    arun_end := frun_end
    drun_end := _
    Frun_end := fun_mk (st := srun_end) lrun_end crun_end krun_end
    mrun_end := PySem.W.mg_of X G arun_end
    ais_name := fis_name
    dis_name := _
    Fis_name := fun_mk (st := sis_name) lis_name cis_name kis_name
    mis_name := PySem.W.mg_of X G ais_name
    aparts_in := fparts_in
    dparts_in := _
    Fparts_in := fun_mk (st := sparts_in) lparts_in cparts_in kparts_in
    mparts_in := PySem.W.mg_of X G aparts_in
    acheck_expression := fcheck_expression
    dcheck_expression := _
    Fcheck_expression := fun_mk (st := scheck_expression) lcheck_expression ccheck_expression kcheck_expression
    mcheck_expression := PySem.W.mg_of X G acheck_expression
    a_check := f_check
    d_check := _
    F_check := fun_mk (st := s_check) l_check c_check k_check
    m_check := PySem.W.mg_of X G a_check
    avalue_of := fvalue_of
    dvalue_of := _
    Fvalue_of := fun_mk (st := svalue_of) lvalue_of cvalue_of kvalue_of
    mvalue_of := PySem.W.mg_of X G avalue_of
    a_value_of_two := f_value_of_two
    d_value_of_two := _
    F_value_of_two := fun_mk (st := s_value_of_two) l_value_of_two c_value_of_two k_value_of_two
    m_value_of_two := PySem.W.mg_of X G a_value_of_two
    aholds := fholds
    dholds := _
    Fholds := fun_mk (st := sholds) lholds cholds kholds
    mholds := PySem.W.mg_of X G aholds
    anames_in := fnames_in
    dnames_in := _
    Fnames_in := fun_mk (st := snames_in) lnames_in cnames_in knames_in
    mnames_in := PySem.W.mg_of X G anames_in
    a_all_names := f_all_names
    d_all_names := _
    F_all_names := fun_mk (st := s_all_names) l_all_names c_all_names k_all_names
    m_all_names := PySem.W.mg_of X G a_all_names
    a_law_draws := f_law_draws
    d_law_draws := _
    F_law_draws := fun_mk (st := s_law_draws) l_law_draws c_law_draws k_law_draws
    m_law_draws := PySem.W.mg_of X G a_law_draws
    a_law_take := f_law_take
    d_law_take := _
    F_law_take := fun_mk (st := s_law_take) l_law_take c_law_take k_law_take
    m_law_take := PySem.W.mg_of X G a_law_take
    a_law_cell := f_law_cell
    d_law_cell := _
    F_law_cell := fun_mk (st := s_law_cell) l_law_cell c_law_cell k_law_cell
    m_law_cell := PySem.W.mg_of X G a_law_cell
    a_law_word := f_law_word
    d_law_word := _
    F_law_word := fun_mk (st := s_law_word) l_law_word c_law_word k_law_word
    m_law_word := PySem.W.mg_of X G a_law_word
    a_law_some_word := f_law_some_word
    d_law_some_word := _
    F_law_some_word := fun_mk (st := s_law_some_word) l_law_some_word c_law_some_word k_law_some_word
    m_law_some_word := PySem.W.mg_of X G a_law_some_word
    a_law_reserved := f_law_reserved
    d_law_reserved := _
    F_law_reserved := fun_mk (st := s_law_reserved) l_law_reserved c_law_reserved k_law_reserved
    m_law_reserved := PySem.W.mg_of X G a_law_reserved
    a_law_name := f_law_name
    d_law_name := _
    F_law_name := fun_mk (st := s_law_name) l_law_name c_law_name k_law_name
    m_law_name := PySem.W.mg_of X G a_law_name
    a_law_names := f_law_names
    d_law_names := _
    F_law_names := fun_mk (st := s_law_names) l_law_names c_law_names k_law_names
    m_law_names := PySem.W.mg_of X G a_law_names
    a_law_number := f_law_number
    d_law_number := _
    F_law_number := fun_mk (st := s_law_number) l_law_number c_law_number k_law_number
    m_law_number := PySem.W.mg_of X G a_law_number
    a_law_leaf := f_law_leaf
    d_law_leaf := _
    F_law_leaf := fun_mk (st := s_law_leaf) l_law_leaf c_law_leaf k_law_leaf
    m_law_leaf := PySem.W.mg_of X G a_law_leaf
    a_law_expression := f_law_expression
    d_law_expression := _
    F_law_expression := fun_mk (st := s_law_expression) l_law_expression c_law_expression k_law_expression
    m_law_expression := PySem.W.mg_of X G a_law_expression
    a_law_test := f_law_test
    d_law_test := _
    F_law_test := fun_mk (st := s_law_test) l_law_test c_law_test k_law_test
    m_law_test := PySem.W.mg_of X G a_law_test
    a_law_values := f_law_values
    d_law_values := _
    F_law_values := fun_mk (st := s_law_values) l_law_values c_law_values k_law_values
    m_law_values := PySem.W.mg_of X G a_law_values
    a_law_replaced := f_law_replaced
    d_law_replaced := _
    F_law_replaced := fun_mk (st := s_law_replaced) l_law_replaced c_law_replaced k_law_replaced
    m_law_replaced := PySem.W.mg_of X G a_law_replaced
    a_law_of_two := f_law_of_two
    d_law_of_two := _
    F_law_of_two := fun_mk (st := s_law_of_two) l_law_of_two c_law_of_two k_law_of_two
    m_law_of_two := PySem.W.mg_of X G a_law_of_two
    a_law_of_tests := f_law_of_tests
    d_law_of_tests := _
    F_law_of_tests := fun_mk (st := s_law_of_tests) l_law_of_tests c_law_of_tests k_law_of_tests
    m_law_of_tests := PySem.W.mg_of X G a_law_of_tests
    alaw := fa
    dlaw := _
    Flaw := fun_mk (st := slaw) llaw claw klaw
    mlaw := PySem.W.mg_of X G alaw }
  refine ⟨T.dlaw, fun s v => .of_eq rfl, fun base _ _ hN => ?_⟩
  exact ok_law hN hp T
end NL
open PySem PySem.W PyProof.Rows
set_option maxRecDepth 100000 in
set_option maxHeartbeats 0 in
theorem PySem.Challenge.cw_neverleaves_k05_whole_values_of_parts_holds : PySem.Challenge.rw_neverleaves_k05_whole_values_of_parts.Holds := by
  w_on; o_law; k_head; (case hw => w_witness2)
  k_fill
  refine NL.walk_ofN (l := PySem.Challenge.rw_neverleaves_k05_whole_values_of_parts) (n := 63) (k := 60) (x := "script") (CX := fun _ => L2.CX0) (sp := fun w => NL.spLaw _) rfl (by decide) rfl ⟨rfl, by decide, by decide⟩ (fun w h Y => PySem.W.kIn_of Y) (by decide +kernel) ?F (fun _ _ a ns hl hb _ hS => ⟨a, ns, rfl, hS, hl, hb, fun _ => rfl⟩) (fun _ _ _ _ _ h => h)
  case F =>
    intro w mg fa h KX G hmg
    refine' NL.all_mk rfl KX G hmg ?arun_end ?lrun_end ?crun_end ?krun_end ?ais_name ?lis_name ?cis_name ?kis_name ?aparts_in ?lparts_in ?cparts_in ?kparts_in ?acheck_expression ?lcheck_expression ?ccheck_expression ?kcheck_expression ?a_check ?l_check ?c_check ?k_check ?avalue_of ?lvalue_of ?cvalue_of ?kvalue_of ?a_value_of_two ?l_value_of_two ?c_value_of_two ?k_value_of_two ?aholds ?lholds ?cholds ?kholds ?anames_in ?lnames_in ?cnames_in ?knames_in ?a_all_names ?l_all_names ?c_all_names ?k_all_names ?a_law_draws ?l_law_draws ?c_law_draws ?k_law_draws ?a_law_take ?l_law_take ?c_law_take ?k_law_take ?a_law_cell ?l_law_cell ?c_law_cell ?k_law_cell ?a_law_word ?l_law_word ?c_law_word ?k_law_word ?a_law_some_word ?l_law_some_word ?c_law_some_word ?k_law_some_word ?a_law_reserved ?l_law_reserved ?c_law_reserved ?k_law_reserved ?a_law_name ?l_law_name ?c_law_name ?k_law_name ?a_law_names ?l_law_names ?c_law_names ?k_law_names ?a_law_number ?l_law_number ?c_law_number ?k_law_number ?a_law_leaf ?l_law_leaf ?c_law_leaf ?k_law_leaf ?a_law_expression ?l_law_expression ?c_law_expression ?k_law_expression ?a_law_test ?l_law_test ?c_law_test ?k_law_test ?a_law_values ?l_law_values ?c_law_values ?k_law_values ?a_law_replaced ?l_law_replaced ?c_law_replaced ?k_law_replaced ?a_law_of_two ?l_law_of_two ?c_law_of_two ?k_law_of_two ?a_law_of_tests ?l_law_of_tests ?c_law_of_tests ?k_law_of_tests ?alaw ?llaw ?claw ?klaw ?g_LETTERS ?r_LETTERS ?g_WORDS ?k_WORDS ?g_MOST_DEPTH ?r_MOST_DEPTH ?z_abs ?z_all ?z_any ?z_int ?z_len ?z_list ?z_max ?z_min ?z_range ?z_set ?z_sorted ?z_tuple
    (case arun_end => k_is); (case lrun_end => k_is); (case crun_end => k_is); (case krun_end => k_is)
    (case ais_name => k_is); (case lis_name => k_is); (case cis_name => k_is); (case kis_name => k_is)
    (case aparts_in => k_is); (case lparts_in => k_is); (case cparts_in => k_is); (case kparts_in => k_is)
    (case acheck_expression => k_is); (case lcheck_expression => k_is); (case ccheck_expression => k_is); (case kcheck_expression => k_is)
    (case a_check => k_is); (case l_check => k_is); (case c_check => k_is); (case k_check => k_is)
    (case avalue_of => k_is); (case lvalue_of => k_is); (case cvalue_of => k_is); (case kvalue_of => k_is)
    (case a_value_of_two => k_is); (case l_value_of_two => k_is); (case c_value_of_two => k_is); (case k_value_of_two => k_is)
    (case aholds => k_is); (case lholds => k_is); (case cholds => k_is); (case kholds => k_is)
    (case anames_in => k_is); (case lnames_in => k_is); (case cnames_in => k_is); (case knames_in => k_is)
    (case a_all_names => k_is); (case l_all_names => k_is); (case c_all_names => k_is); (case k_all_names => k_is)
    (case a_law_draws => k_is); (case l_law_draws => k_is); (case c_law_draws => k_is); (case k_law_draws => k_is)
    (case a_law_take => k_is); (case l_law_take => k_is); (case c_law_take => k_is); (case k_law_take => k_is)
    (case a_law_cell => k_is); (case l_law_cell => k_is); (case c_law_cell => k_is); (case k_law_cell => k_is)
    (case a_law_word => k_is); (case l_law_word => k_is); (case c_law_word => k_is); (case k_law_word => k_is)
    (case a_law_some_word => k_is); (case l_law_some_word => k_is); (case c_law_some_word => k_is); (case k_law_some_word => k_is)
    (case a_law_reserved => k_is); (case l_law_reserved => k_is); (case c_law_reserved => k_is); (case k_law_reserved => k_is)
    (case a_law_name => k_is); (case l_law_name => k_is); (case c_law_name => k_is); (case k_law_name => k_is)
    (case a_law_names => k_is); (case l_law_names => k_is); (case c_law_names => k_is); (case k_law_names => k_is)
    (case a_law_number => k_is); (case l_law_number => k_is); (case c_law_number => k_is); (case k_law_number => k_is)
    (case a_law_leaf => k_is); (case l_law_leaf => k_is); (case c_law_leaf => k_is); (case k_law_leaf => k_is)
    (case a_law_expression => k_is); (case l_law_expression => k_is); (case c_law_expression => k_is); (case k_law_expression => k_is)
    (case a_law_test => k_is); (case l_law_test => k_is); (case c_law_test => k_is); (case k_law_test => k_is)
    (case a_law_values => k_is); (case l_law_values => k_is); (case c_law_values => k_is); (case k_law_values => k_is)
    (case a_law_replaced => k_is); (case l_law_replaced => k_is); (case c_law_replaced => k_is); (case k_law_replaced => k_is)
    (case a_law_of_two => k_is); (case l_law_of_two => k_is); (case c_law_of_two => k_is); (case k_law_of_two => k_is)
    (case a_law_of_tests => k_is); (case l_law_of_tests => k_is); (case c_law_of_tests => k_is); (case k_law_of_tests => k_is)
    (case alaw => k_is); (case llaw => k_is); (case claw => k_is); (case klaw => k_is)
    (case g_LETTERS => k_is); (case r_LETTERS => exact ⟨_, rfl⟩)
    (case g_WORDS => k_is); (case k_WORDS => (refine' NL.kt_mk ?h1 ?h2 ?h3 ?h4 ?h5; (case h1 => k_is); (case h2 => rfl); (case h3 => rfl); (case h4 => decide); (case h5 => repeat (first | exact .nil | refine .cons ⟨_, rfl⟩ ?_))))
    (case g_MOST_DEPTH => k_is); (case r_MOST_DEPTH => exact ⟨_, rfl⟩)
    (case z_abs => k_is)
    (case z_all => k_is)
    (case z_any => k_is)
    (case z_int => k_is)
    (case z_len => k_is)
    (case z_list => k_is)
    (case z_max => k_is)
    (case z_min => k_is)
    (case z_range => k_is)
    (case z_set => k_is)
    (case z_sorted => k_is)
    (case z_tuple => k_is)
