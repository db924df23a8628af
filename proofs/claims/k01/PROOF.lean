import PyProof.Rows.All
import Wide.All
import OpenK.AllK
import Wide.FinOn
import HandS.ForExc
import HandS.ForMost
import HandS.TupAny
import HandS.IsInst
import HandS.Codes
import HandS.FStr
import HandS.Zip
import HandS.HotCalls
import HandS.ExcIs
import HandS.ExcCtx
import HandS.More
import HandS.Text
import KE.KxIndex
import PySem.Challenge.RW_neverleaves_k01_valid_expressions
set_option Elab.async false
set_option linter.all false
set_option maxRecDepth 100000

namespace NL
open PySem PySem.Spec PyProof.Rows L2
def topS (i : Nat) : Stmt := PySem.Challenge.pw_neverleaves_k01_valid_expressions.main.body.getD i (.Pass ⟨0, 0, 0, 0⟩)
abbrev srun_end : Stmt := topS 15
abbrev Nrun_end : List Str := ["text", "at", "characters"]
abbrev Prun_end : List Str := ["text", "at", "characters"]
theorem scrun_end : FnScope Nrun_end Prun_end (defScope srun_end) := ⟨rfl, rfl, rfl, by decide +kernel, rfl, by decide +kernel, by decide +kernel⟩
abbrev sis_name : Stmt := topS 16
abbrev Nis_name : List Str := ["word"]
abbrev Pis_name : List Str := ["word"]
theorem scis_name : FnScope Nis_name Pis_name (defScope sis_name) := ⟨rfl, rfl, rfl, by decide +kernel, rfl, by decide +kernel, by decide +kernel⟩
abbrev sparts_in : Stmt := topS 19
abbrev Nparts_in : List Str := ["whole", "word"]
abbrev Pparts_in : List Str := ["whole"]
theorem scparts_in : FnScope Nparts_in Pparts_in (defScope sparts_in) := ⟨rfl, rfl, rfl, by decide +kernel, rfl, by decide +kernel, by decide +kernel⟩
abbrev scheck_expression : Stmt := topS 20
abbrev Ncheck_expression : List Str := ["expression"]
abbrev Pcheck_expression : List Str := ["expression"]
theorem sccheck_expression : FnScope Ncheck_expression Pcheck_expression (defScope scheck_expression) := ⟨rfl, rfl, rfl, by decide +kernel, rfl, by decide +kernel, by decide +kernel⟩
abbrev scheck_condition : Stmt := topS 21
abbrev Ncheck_condition : List Str := ["condition"]
abbrev Pcheck_condition : List Str := ["condition"]
theorem sccheck_condition : FnScope Ncheck_condition Pcheck_condition (defScope scheck_condition) := ⟨rfl, rfl, rfl, by decide +kernel, rfl, by decide +kernel, by decide +kernel⟩
abbrev s_check : Stmt := topS 22
abbrev N_check : List Str := ["whole", "depth", "word", "part"]
abbrev P_check : List Str := ["whole", "depth"]
theorem sc_check : FnScope N_check P_check (defScope s_check) := ⟨rfl, rfl, rfl, by decide +kernel, rfl, by decide +kernel, by decide +kernel⟩
abbrev s_law_draws : Stmt := topS 24
abbrev N_law_draws : List Str := ["script", "many", "cells", "cell", "rest", "draws", "k", "at", "once"]
abbrev P_law_draws : List Str := ["script", "many"]
theorem sc_law_draws : FnScope N_law_draws P_law_draws (defScope s_law_draws) := ⟨rfl, rfl, rfl, by decide +kernel, rfl, by decide +kernel, by decide +kernel⟩
abbrev s_law_take : Stmt := topS 25
abbrev N_law_take : List Str := ["draws", "many"]
abbrev P_law_take : List Str := ["draws", "many"]
theorem sc_law_take : FnScope N_law_take P_law_take (defScope s_law_take) := ⟨rfl, rfl, rfl, by decide +kernel, rfl, by decide +kernel, by decide +kernel⟩
abbrev s_law_cell : Stmt := topS 26
abbrev N_law_cell : List Str := ["script", "draws"]
abbrev P_law_cell : List Str := ["script", "draws"]
theorem sc_law_cell : FnScope N_law_cell P_law_cell (defScope s_law_cell) := ⟨rfl, rfl, rfl, by decide +kernel, rfl, by decide +kernel, by decide +kernel⟩
abbrev s_law_word : Stmt := topS 27
abbrev N_law_word : List Str := ["number", "word", "k"]
abbrev P_law_word : List Str := ["number"]
theorem sc_law_word : FnScope N_law_word P_law_word (defScope s_law_word) := ⟨rfl, rfl, rfl, by decide +kernel, rfl, by decide +kernel, by decide +kernel⟩
abbrev s_law_some_word : Stmt := topS 28
abbrev N_law_some_word : List Str := ["draws", "number", "great"]
abbrev P_law_some_word : List Str := ["draws"]
theorem sc_law_some_word : FnScope N_law_some_word P_law_some_word (defScope s_law_some_word) := ⟨rfl, rfl, rfl, by decide +kernel, rfl, by decide +kernel, by decide +kernel⟩
abbrev s_law_reserved : Stmt := topS 29
abbrev N_law_reserved : List Str := ["first"]
abbrev P_law_reserved : List Str := []
theorem sc_law_reserved : FnScope N_law_reserved P_law_reserved (defScope s_law_reserved) := ⟨rfl, rfl, rfl, by decide +kernel, rfl, by decide +kernel, by decide +kernel⟩
abbrev s_law_name : Stmt := topS 30
abbrev N_law_name : List Str := ["draws", "known", "name", "near"]
abbrev P_law_name : List Str := ["draws"]
theorem sc_law_name : FnScope N_law_name P_law_name (defScope s_law_name) := ⟨rfl, rfl, rfl, by decide +kernel, rfl, by decide +kernel, by decide +kernel⟩
abbrev s_law_names : Stmt := topS 31
abbrev N_law_names : List Str := ["draws", "many", "names", "k", "name"]
abbrev P_law_names : List Str := ["draws", "many"]
theorem sc_law_names : FnScope N_law_names P_law_names (defScope s_law_names) := ⟨rfl, rfl, rfl, by decide +kernel, rfl, by decide +kernel, by decide +kernel⟩
abbrev s_law_no_word : Stmt := topS 32
abbrev N_law_no_word : List Str := ["draws", "word", "shape", "chars", "at"]
abbrev P_law_no_word : List Str := ["draws"]
theorem sc_law_no_word : FnScope N_law_no_word P_law_no_word (defScope s_law_no_word) := ⟨rfl, rfl, rfl, by decide +kernel, rfl, by decide +kernel, by decide +kernel⟩
abbrev s_law_number : Stmt := topS 33
abbrev N_law_number : List Str := ["draws", "cell"]
abbrev P_law_number : List Str := ["draws", "cell"]
theorem sc_law_number : FnScope N_law_number P_law_number (defScope s_law_number) := ⟨rfl, rfl, rfl, by decide +kernel, rfl, by decide +kernel, by decide +kernel⟩
abbrev s_law_leaf : Stmt := topS 34
abbrev N_law_leaf : List Str := ["draws", "names", "cell"]
abbrev P_law_leaf : List Str := ["draws", "names", "cell"]
theorem sc_law_leaf : FnScope N_law_leaf P_law_leaf (defScope s_law_leaf) := ⟨rfl, rfl, rfl, by decide +kernel, rfl, by decide +kernel, by decide +kernel⟩
abbrev s_law_expression : Stmt := topS 35
abbrev N_law_expression : List Str := ["draws", "names", "cell", "depth", "kind", "one", "two"]
abbrev P_law_expression : List Str := ["draws", "names", "cell", "depth"]
theorem sc_law_expression : FnScope N_law_expression P_law_expression (defScope s_law_expression) := ⟨rfl, rfl, rfl, by decide +kernel, rfl, by decide +kernel, by decide +kernel⟩
abbrev s_law_test : Stmt := topS 36
abbrev N_law_test : List Str := ["draws", "names", "cell", "depth", "kind", "one", "many", "k"]
abbrev P_law_test : List Str := ["draws", "names", "cell", "depth"]
theorem sc_law_test : FnScope N_law_test P_law_test (defScope s_law_test) := ⟨rfl, rfl, rfl, by decide +kernel, rfl, by decide +kernel, by decide +kernel⟩
abbrev s_law_inner : Stmt := topS 37
abbrev N_law_inner : List Str := ["item"]
abbrev P_law_inner : List Str := ["item"]
theorem sc_law_inner : FnScope N_law_inner P_law_inner (defScope s_law_inner) := ⟨rfl, rfl, rfl, by decide +kernel, rfl, by decide +kernel, by decide +kernel⟩
abbrev s_law_depth : Stmt := topS 38
abbrev N_law_depth : List Str := ["item", "part"]
abbrev P_law_depth : List Str := ["item"]
theorem sc_law_depth : FnScope N_law_depth P_law_depth (defScope s_law_depth) := ⟨rfl, rfl, rfl, by decide +kernel, rfl, by decide +kernel, by decide +kernel⟩
abbrev s_law_is_test : Stmt := topS 39
abbrev N_law_is_test : List Str := ["item"]
abbrev P_law_is_test : List Str := ["item"]
theorem sc_law_is_test : FnScope N_law_is_test P_law_is_test (defScope s_law_is_test) := ⟨rfl, rfl, rfl, by decide +kernel, rfl, by decide +kernel, by decide +kernel⟩
abbrev s_law_around : Stmt := topS 40
abbrev N_law_around : List Str := ["item", "side", "many", "turn", "k", "both", "parts", "found"]
abbrev P_law_around : List Str := ["item", "side", "many", "turn"]
theorem sc_law_around : FnScope N_law_around P_law_around (defScope s_law_around) := ⟨rfl, rfl, rfl, by decide +kernel, rfl, by decide +kernel, by decide +kernel⟩
abbrev s_law_error_name : Stmt := topS 41
abbrev N_law_error_name : List Str := ["e", "kinds", "names", "found", "k"]
abbrev P_law_error_name : List Str := ["e"]
theorem sc_law_error_name : FnScope N_law_error_name P_law_error_name (defScope s_law_error_name) := ⟨rfl, rfl, rfl, by decide +kernel, rfl, by decide +kernel, by decide +kernel⟩
abbrev s_law_bad : Stmt := topS 42
abbrev N_law_bad : List Str := ["draws", "names", "cell", "leaf", "known", "name", "low", "spot", "found", "parts"]
abbrev P_law_bad : List Str := ["draws", "names", "cell"]
theorem sc_law_bad : FnScope N_law_bad P_law_bad (defScope s_law_bad) := ⟨rfl, rfl, rfl, by decide +kernel, rfl, by decide +kernel, by decide +kernel⟩
abbrev s_law_checked : Stmt := topS 43
abbrev N_law_checked : List Str := ["item", "found", "e"]
abbrev P_law_checked : List Str := ["item"]
theorem sc_law_checked : FnScope N_law_checked P_law_checked (defScope s_law_checked) := ⟨rfl, rfl, rfl, by decide +kernel, rfl, by decide +kernel, by decide +kernel⟩
abbrev slaw : Stmt := topS 44
abbrev Nlaw : List Str := ["script", "draws", "cell", "names", "turn", "side", "items", "item", "bad", "last", "deep"]
abbrev Plaw : List Str := ["script"]
theorem sclaw : FnScope Nlaw Plaw (defScope slaw) := ⟨rfl, rfl, rfl, by decide +kernel, rfl, by decide +kernel, by decide +kernel⟩
def KT (K : PySem.W.Frag) (a : Addr) (ys : List V) : Prop := ∃ o its n, List.lookup a K = some o ∧ o.cls = .type "tuple" ∧ o.data = .seq its n ∧ its.size ≤ sizeLine ∧ L2.Vals ys its.toList
theorem kt_mk {K : PySem.W.Frag} {a : Addr} {ys : List V} {o : Obj} {its : Array Value} {n : Nat} (h1 : List.lookup a K = some o) (h2 : o.cls = .type "tuple") (h3 : o.data = .seq its n) (h4 : its.size ≤ sizeLine) (h5 : L2.Vals ys its.toList) : KT K a ys := ⟨o, its, n, h1, h2, h3, h4, h5⟩
structure Txt (K : PySem.W.Frag) (mg : Str → Option Value) where
  z_ValueError : mg "ValueError" = none
  z_abs : mg "abs" = none
  z_int : mg "int" = none
  z_isinstance : mg "isinstance" = none
  z_len : mg "len" = none
  z_list : mg "list" = none
  z_max : mg "max" = none
  z_range : mg "range" = none
  z_tuple : mg "tuple" = none
  u_LETTERS : Value
  g_LETTERS : mg "LETTERS" = some u_LETTERS
  r_LETTERS : L2.RelV (.str "abcdefghijklmnopqrstuvwxyz") u_LETTERS
  c_WORDS : Addr
  g_WORDS : mg "WORDS" = some (.ref c_WORDS)
  k_WORDS : KT K c_WORDS [(.str "true"), (.str "false"), (.str "add"), (.str "sub"), (.str "mul"), (.str "div"), (.str "mod"), (.str "min"), (.str "max"), (.str "abs"), (.str "if"), (.str "less"), (.str "equal"), (.str "not"), (.str "all"), (.str "any")]
  u_MOST_DEPTH : Value
  g_MOST_DEPTH : mg "MOST_DEPTH" = some u_MOST_DEPTH
  r_MOST_DEPTH : L2.RelV (.int 12) u_MOST_DEPTH
  arun_end : Addr
  drun_end : FuncData
  Frun_end : Fun K "run_end" "run_end" srun_end arun_end drun_end
  mrun_end : mg "run_end" = some (.ref arun_end)
  ais_name : Addr
  dis_name : FuncData
  Fis_name : Fun K "is_name" "is_name" sis_name ais_name dis_name
  mis_name : mg "is_name" = some (.ref ais_name)
  aparts_in : Addr
  dparts_in : FuncData
  Fparts_in : Fun K "parts_in" "parts_in" sparts_in aparts_in dparts_in
  mparts_in : mg "parts_in" = some (.ref aparts_in)
  acheck_expression : Addr
  dcheck_expression : FuncData
  Fcheck_expression : Fun K "check_expression" "check_expression" scheck_expression acheck_expression dcheck_expression
  mcheck_expression : mg "check_expression" = some (.ref acheck_expression)
  acheck_condition : Addr
  dcheck_condition : FuncData
  Fcheck_condition : Fun K "check_condition" "check_condition" scheck_condition acheck_condition dcheck_condition
  mcheck_condition : mg "check_condition" = some (.ref acheck_condition)
  a_check : Addr
  d_check : FuncData
  F_check : Fun K "_check" "_check" s_check a_check d_check
  m_check : mg "_check" = some (.ref a_check)
  a_law_draws : Addr
  d_law_draws : FuncData
  F_law_draws : Fun K "_law_draws" "_law_draws" s_law_draws a_law_draws d_law_draws
  m_law_draws : mg "_law_draws" = some (.ref a_law_draws)
  a_law_take : Addr
  d_law_take : FuncData
  F_law_take : Fun K "_law_take" "_law_take" s_law_take a_law_take d_law_take
  m_law_take : mg "_law_take" = some (.ref a_law_take)
  a_law_cell : Addr
  d_law_cell : FuncData
  F_law_cell : Fun K "_law_cell" "_law_cell" s_law_cell a_law_cell d_law_cell
  m_law_cell : mg "_law_cell" = some (.ref a_law_cell)
  a_law_word : Addr
  d_law_word : FuncData
  F_law_word : Fun K "_law_word" "_law_word" s_law_word a_law_word d_law_word
  m_law_word : mg "_law_word" = some (.ref a_law_word)
  a_law_some_word : Addr
  d_law_some_word : FuncData
  F_law_some_word : Fun K "_law_some_word" "_law_some_word" s_law_some_word a_law_some_word d_law_some_word
  m_law_some_word : mg "_law_some_word" = some (.ref a_law_some_word)
  a_law_reserved : Addr
  d_law_reserved : FuncData
  F_law_reserved : Fun K "_law_reserved" "_law_reserved" s_law_reserved a_law_reserved d_law_reserved
  m_law_reserved : mg "_law_reserved" = some (.ref a_law_reserved)
  a_law_name : Addr
  d_law_name : FuncData
  F_law_name : Fun K "_law_name" "_law_name" s_law_name a_law_name d_law_name
  m_law_name : mg "_law_name" = some (.ref a_law_name)
  a_law_names : Addr
  d_law_names : FuncData
  F_law_names : Fun K "_law_names" "_law_names" s_law_names a_law_names d_law_names
  m_law_names : mg "_law_names" = some (.ref a_law_names)
  a_law_no_word : Addr
  d_law_no_word : FuncData
  F_law_no_word : Fun K "_law_no_word" "_law_no_word" s_law_no_word a_law_no_word d_law_no_word
  m_law_no_word : mg "_law_no_word" = some (.ref a_law_no_word)
  a_law_number : Addr
  d_law_number : FuncData
  F_law_number : Fun K "_law_number" "_law_number" s_law_number a_law_number d_law_number
  m_law_number : mg "_law_number" = some (.ref a_law_number)
  a_law_leaf : Addr
  d_law_leaf : FuncData
  F_law_leaf : Fun K "_law_leaf" "_law_leaf" s_law_leaf a_law_leaf d_law_leaf
  m_law_leaf : mg "_law_leaf" = some (.ref a_law_leaf)
  a_law_expression : Addr
  d_law_expression : FuncData
  F_law_expression : Fun K "_law_expression" "_law_expression" s_law_expression a_law_expression d_law_expression
  m_law_expression : mg "_law_expression" = some (.ref a_law_expression)
  a_law_test : Addr
  d_law_test : FuncData
  F_law_test : Fun K "_law_test" "_law_test" s_law_test a_law_test d_law_test
  m_law_test : mg "_law_test" = some (.ref a_law_test)
  a_law_inner : Addr
  d_law_inner : FuncData
  F_law_inner : Fun K "_law_inner" "_law_inner" s_law_inner a_law_inner d_law_inner
  m_law_inner : mg "_law_inner" = some (.ref a_law_inner)
  a_law_depth : Addr
  d_law_depth : FuncData
  F_law_depth : Fun K "_law_depth" "_law_depth" s_law_depth a_law_depth d_law_depth
  m_law_depth : mg "_law_depth" = some (.ref a_law_depth)
  a_law_is_test : Addr
  d_law_is_test : FuncData
  F_law_is_test : Fun K "_law_is_test" "_law_is_test" s_law_is_test a_law_is_test d_law_is_test
  m_law_is_test : mg "_law_is_test" = some (.ref a_law_is_test)
  a_law_around : Addr
  d_law_around : FuncData
  F_law_around : Fun K "_law_around" "_law_around" s_law_around a_law_around d_law_around
  m_law_around : mg "_law_around" = some (.ref a_law_around)
  a_law_error_name : Addr
  d_law_error_name : FuncData
  F_law_error_name : Fun K "_law_error_name" "_law_error_name" s_law_error_name a_law_error_name d_law_error_name
  m_law_error_name : mg "_law_error_name" = some (.ref a_law_error_name)
  a_law_bad : Addr
  d_law_bad : FuncData
  F_law_bad : Fun K "_law_bad" "_law_bad" s_law_bad a_law_bad d_law_bad
  m_law_bad : mg "_law_bad" = some (.ref a_law_bad)
  a_law_checked : Addr
  d_law_checked : FuncData
  F_law_checked : Fun K "_law_checked" "_law_checked" s_law_checked a_law_checked d_law_checked
  m_law_checked : mg "_law_checked" = some (.ref a_law_checked)
  alaw : Addr
  dlaw : FuncData
  Flaw : Fun K "law" "law" slaw alaw dlaw
  mlaw : mg "law" = some (.ref alaw)
structure Exs (K : PySem.W.Frag) (mg : Str → Option Value) where
  c_ControlError : Addr
  g_ControlError : mg "ControlError" = some (.ref c_ControlError)
  c_InvalidExpression : Addr
  g_InvalidExpression : mg "InvalidExpression" = some (.ref c_InvalidExpression)
  c_InvalidPlant : Addr
  g_InvalidPlant : mg "InvalidPlant" = some (.ref c_InvalidPlant)
  c_InvalidArena : Addr
  g_InvalidArena : mg "InvalidArena" = some (.ref c_InvalidArena)
  c_InvalidGoal : Addr
  g_InvalidGoal : mg "InvalidGoal" = some (.ref c_InvalidGoal)
  c_BadText : Addr
  g_BadText : mg "BadText" = some (.ref c_BadText)
  c_NoPosition : Addr
  g_NoPosition : mg "NoPosition" = some (.ref c_NoPosition)
  c_Held : Addr
  g_Held : mg "Held" = some (.ref c_Held)
  c_NotHeld : Addr
  g_NotHeld : mg "NotHeld" = some (.ref c_NotHeld)
  c_BadReply : Addr
  g_BadReply : mg "BadReply" = some (.ref c_BadReply)
  c_Lost : Addr
  g_Lost : mg "Lost" = some (.ref c_Lost)
  x : PySem.W.excIn K c_InvalidExpression [.type "ValueError", .type "Exception", .type "BaseException", .type "object"] "ValueError.__new__" = true
  k : PySem.W.keepIn K (.ref c_InvalidExpression) = true
  b : PySem.W.subIn K (.ref c_InvalidExpression) (.type "BaseException") = some true
  sV : PySem.W.subIn K (.ref c_InvalidExpression) (.type "ValueError") = some true
  bC : PySem.W.subIn K (.ref c_ControlError) (.type "BaseException") = some true
  ec : ExcC K c_InvalidExpression
  i_ControlError : PySem.W.isClsIn K c_ControlError = true
  t_ControlError : PySem.W.typeIn K (.ref c_ControlError) = some (.type "type")
  s_ControlError : PySem.W.subIn K (.ref c_InvalidExpression) (.ref c_ControlError) = some true
  i_InvalidExpression : PySem.W.isClsIn K c_InvalidExpression = true
  t_InvalidExpression : PySem.W.typeIn K (.ref c_InvalidExpression) = some (.type "type")
  s_InvalidExpression : PySem.W.subIn K (.ref c_InvalidExpression) (.ref c_InvalidExpression) = some true
  i_InvalidPlant : PySem.W.isClsIn K c_InvalidPlant = true
  t_InvalidPlant : PySem.W.typeIn K (.ref c_InvalidPlant) = some (.type "type")
  s_InvalidPlant : PySem.W.subIn K (.ref c_InvalidExpression) (.ref c_InvalidPlant) = some false
  i_InvalidArena : PySem.W.isClsIn K c_InvalidArena = true
  t_InvalidArena : PySem.W.typeIn K (.ref c_InvalidArena) = some (.type "type")
  s_InvalidArena : PySem.W.subIn K (.ref c_InvalidExpression) (.ref c_InvalidArena) = some false
  i_InvalidGoal : PySem.W.isClsIn K c_InvalidGoal = true
  t_InvalidGoal : PySem.W.typeIn K (.ref c_InvalidGoal) = some (.type "type")
  s_InvalidGoal : PySem.W.subIn K (.ref c_InvalidExpression) (.ref c_InvalidGoal) = some false
  i_BadText : PySem.W.isClsIn K c_BadText = true
  t_BadText : PySem.W.typeIn K (.ref c_BadText) = some (.type "type")
  s_BadText : PySem.W.subIn K (.ref c_InvalidExpression) (.ref c_BadText) = some false
  i_NoPosition : PySem.W.isClsIn K c_NoPosition = true
  t_NoPosition : PySem.W.typeIn K (.ref c_NoPosition) = some (.type "type")
  s_NoPosition : PySem.W.subIn K (.ref c_InvalidExpression) (.ref c_NoPosition) = some false
  i_Held : PySem.W.isClsIn K c_Held = true
  t_Held : PySem.W.typeIn K (.ref c_Held) = some (.type "type")
  s_Held : PySem.W.subIn K (.ref c_InvalidExpression) (.ref c_Held) = some false
  i_NotHeld : PySem.W.isClsIn K c_NotHeld = true
  t_NotHeld : PySem.W.typeIn K (.ref c_NotHeld) = some (.type "type")
  s_NotHeld : PySem.W.subIn K (.ref c_InvalidExpression) (.ref c_NotHeld) = some false
  i_BadReply : PySem.W.isClsIn K c_BadReply = true
  t_BadReply : PySem.W.typeIn K (.ref c_BadReply) = some (.type "type")
  s_BadReply : PySem.W.subIn K (.ref c_InvalidExpression) (.ref c_BadReply) = some false
  i_Lost : PySem.W.isClsIn K c_Lost = true
  t_Lost : PySem.W.typeIn K (.ref c_Lost) = some (.type "type")
  s_Lost : PySem.W.subIn K (.ref c_InvalidExpression) (.ref c_Lost) = some false
theorem Txt.brun_end {K : PySem.W.Frag} {mg : Str → Option Value} (T : Txt K mg) : Binds K T.drun_end Prun_end [] := T.Frun_end.binds fun _ _ _ _ _ _ us hl => match us, hl with | [_, _, _], _ => rfl
theorem Txt.bis_name {K : PySem.W.Frag} {mg : Str → Option Value} (T : Txt K mg) : Binds K T.dis_name Pis_name [] := T.Fis_name.binds fun _ _ _ _ _ _ us hl => match us, hl with | [_], _ => rfl
theorem Txt.bparts_in {K : PySem.W.Frag} {mg : Str → Option Value} (T : Txt K mg) : Binds K T.dparts_in Pparts_in [] := T.Fparts_in.binds fun _ _ _ _ _ _ us hl => match us, hl with | [_], _ => rfl
theorem Txt.bcheck_expression {K : PySem.W.Frag} {mg : Str → Option Value} (T : Txt K mg) : Binds K T.dcheck_expression Pcheck_expression [] := T.Fcheck_expression.binds fun _ _ _ _ _ _ us hl => match us, hl with | [_], _ => rfl
theorem Txt.bcheck_condition {K : PySem.W.Frag} {mg : Str → Option Value} (T : Txt K mg) : Binds K T.dcheck_condition Pcheck_condition [] := T.Fcheck_condition.binds fun _ _ _ _ _ _ us hl => match us, hl with | [_], _ => rfl
theorem Txt.b_check {K : PySem.W.Frag} {mg : Str → Option Value} (T : Txt K mg) : Binds K T.d_check P_check [] := T.F_check.binds fun _ _ _ _ _ _ us hl => match us, hl with | [_, _], _ => rfl
theorem Txt.b_law_draws {K : PySem.W.Frag} {mg : Str → Option Value} (T : Txt K mg) : Binds K T.d_law_draws P_law_draws [] := T.F_law_draws.binds fun _ _ _ _ _ _ us hl => match us, hl with | [_, _], _ => rfl
theorem Txt.b_law_take {K : PySem.W.Frag} {mg : Str → Option Value} (T : Txt K mg) : Binds K T.d_law_take P_law_take [] := T.F_law_take.binds fun _ _ _ _ _ _ us hl => match us, hl with | [_, _], _ => rfl
theorem Txt.b_law_cell {K : PySem.W.Frag} {mg : Str → Option Value} (T : Txt K mg) : Binds K T.d_law_cell P_law_cell [] := T.F_law_cell.binds fun _ _ _ _ _ _ us hl => match us, hl with | [_, _], _ => rfl
theorem Txt.b_law_word {K : PySem.W.Frag} {mg : Str → Option Value} (T : Txt K mg) : Binds K T.d_law_word P_law_word [] := T.F_law_word.binds fun _ _ _ _ _ _ us hl => match us, hl with | [_], _ => rfl
theorem Txt.b_law_some_word {K : PySem.W.Frag} {mg : Str → Option Value} (T : Txt K mg) : Binds K T.d_law_some_word P_law_some_word [] := T.F_law_some_word.binds fun _ _ _ _ _ _ us hl => match us, hl with | [_], _ => rfl
theorem Txt.b_law_reserved {K : PySem.W.Frag} {mg : Str → Option Value} (T : Txt K mg) : Binds K T.d_law_reserved P_law_reserved [] := T.F_law_reserved.binds fun _ _ _ _ _ _ us hl => match us, hl with | [], _ => rfl
theorem Txt.b_law_name {K : PySem.W.Frag} {mg : Str → Option Value} (T : Txt K mg) : Binds K T.d_law_name P_law_name [] := T.F_law_name.binds fun _ _ _ _ _ _ us hl => match us, hl with | [_], _ => rfl
theorem Txt.b_law_names {K : PySem.W.Frag} {mg : Str → Option Value} (T : Txt K mg) : Binds K T.d_law_names P_law_names [] := T.F_law_names.binds fun _ _ _ _ _ _ us hl => match us, hl with | [_, _], _ => rfl
theorem Txt.b_law_no_word {K : PySem.W.Frag} {mg : Str → Option Value} (T : Txt K mg) : Binds K T.d_law_no_word P_law_no_word [] := T.F_law_no_word.binds fun _ _ _ _ _ _ us hl => match us, hl with | [_], _ => rfl
theorem Txt.b_law_number {K : PySem.W.Frag} {mg : Str → Option Value} (T : Txt K mg) : Binds K T.d_law_number P_law_number [] := T.F_law_number.binds fun _ _ _ _ _ _ us hl => match us, hl with | [_, _], _ => rfl
theorem Txt.b_law_leaf {K : PySem.W.Frag} {mg : Str → Option Value} (T : Txt K mg) : Binds K T.d_law_leaf P_law_leaf [] := T.F_law_leaf.binds fun _ _ _ _ _ _ us hl => match us, hl with | [_, _, _], _ => rfl
theorem Txt.b_law_expression {K : PySem.W.Frag} {mg : Str → Option Value} (T : Txt K mg) : Binds K T.d_law_expression P_law_expression [] := T.F_law_expression.binds fun _ _ _ _ _ _ us hl => match us, hl with | [_, _, _, _], _ => rfl
theorem Txt.b_law_test {K : PySem.W.Frag} {mg : Str → Option Value} (T : Txt K mg) : Binds K T.d_law_test P_law_test [] := T.F_law_test.binds fun _ _ _ _ _ _ us hl => match us, hl with | [_, _, _, _], _ => rfl
theorem Txt.b_law_inner {K : PySem.W.Frag} {mg : Str → Option Value} (T : Txt K mg) : Binds K T.d_law_inner P_law_inner [] := T.F_law_inner.binds fun _ _ _ _ _ _ us hl => match us, hl with | [_], _ => rfl
theorem Txt.b_law_depth {K : PySem.W.Frag} {mg : Str → Option Value} (T : Txt K mg) : Binds K T.d_law_depth P_law_depth [] := T.F_law_depth.binds fun _ _ _ _ _ _ us hl => match us, hl with | [_], _ => rfl
theorem Txt.b_law_is_test {K : PySem.W.Frag} {mg : Str → Option Value} (T : Txt K mg) : Binds K T.d_law_is_test P_law_is_test [] := T.F_law_is_test.binds fun _ _ _ _ _ _ us hl => match us, hl with | [_], _ => rfl
theorem Txt.b_law_around {K : PySem.W.Frag} {mg : Str → Option Value} (T : Txt K mg) : Binds K T.d_law_around P_law_around [] := T.F_law_around.binds fun _ _ _ _ _ _ us hl => match us, hl with | [_, _, _, _], _ => rfl
theorem Txt.b_law_error_name {K : PySem.W.Frag} {mg : Str → Option Value} (T : Txt K mg) : Binds K T.d_law_error_name P_law_error_name [] := T.F_law_error_name.binds fun _ _ _ _ _ _ us hl => match us, hl with | [_], _ => rfl
theorem Txt.b_law_bad {K : PySem.W.Frag} {mg : Str → Option Value} (T : Txt K mg) : Binds K T.d_law_bad P_law_bad [] := T.F_law_bad.binds fun _ _ _ _ _ _ us hl => match us, hl with | [_, _, _], _ => rfl
theorem Txt.b_law_checked {K : PySem.W.Frag} {mg : Str → Option Value} (T : Txt K mg) : Binds K T.d_law_checked P_law_checked [] := T.F_law_checked.binds fun _ _ _ _ _ _ us hl => match us, hl with | [_], _ => rfl
theorem Txt.blaw {K : PySem.W.Frag} {mg : Str → Option Value} (T : Txt K mg) : Binds K T.dlaw Plaw [] := T.Flaw.binds fun _ _ _ _ _ _ us hl => match us, hl with | [_], _ => rfl
end NL

set_option maxHeartbeats 4000000
namespace NL
open PySem PySem.Spec PyProof.Rows L2 L2H HotX
/-! ### where an exception is handled: a range walked in a comprehension -/
structure TurnG (P : Program) (w : World) (K : PySem.W.Frag) (tg : Expr) (J : L2.It) (fp : List Addr) (it : Addr) (tn : Nat → Heap → Prop) : Prop where
  mem : it ∈ fp
  obj : ∀ i h, tn i h → ∀ b ∈ fp, ∃ o, h.get? b = some o ∧ ∀ v, o.data ≠ .cell v
  keep : ∀ i h h', tn i h → (∀ b ∈ fp, ∀ o, h.get? b = some o → h'.get? b = some o) → tn i h'
  item : ∀ (X : Cx), X.prog = P → X.w = w → X.K = K → ∀ (i : Nat) (pins : List (Addr × Obj)) (s : Shared) (σ : L2.St) (H : Hp) (E : Value → Shared → Prop), Inv X pins σ H s → (∀ b ∈ fp, FpOk X pins H b) → tn i s.heap → J.go i H →
    wpAny (model P w) X.A (pyNext (.ref it)) (fun r s1 => ∃ u, r = some u ∧
      wpAny (model P w) X.A (letOwnedTupleGo tg (.ref it) u) (fun _ s2 => ∃ x H', Inv X pins σ H' s2 ∧ RelV x u ∧ J.yld i H x H' ∧ tn (i + 1) s2.heap ∧ ∀ b ∈ fp, H' b = none) E s1) E s
  done : ∀ (X : Cx), X.prog = P → X.w = w → X.K = K → ∀ (i : Nat) (pins : List (Addr × Obj)) (s : Shared) (σ : L2.St) (H : Hp) (E : Value → Shared → Prop), (∃ x1, HotAt X.A x1 s.heap) → Inv X pins σ H s → (∀ b ∈ fp, FpOk X pins H b) → tn i s.heap → J.stop i H →
    wpAny (model P w) X.A (pyNext (.ref it)) (fun r s1 => r = none ∧ Inv X pins σ H s1) E s
  self : ∀ (A : Around) (i : Nat) (s : Shared) (Q : Value → Shared → Prop) (E : Value → Shared → Prop), tn i s.heap → Q (.ref it) s → wpAny (model P w) A (pyIter (.ref it)) Q E s
theorem turn_rangeG {P : Program} {w : World} {K : PySem.W.Frag} {tg : Expr} (it : Addr) (lo : Int) (n : Nat) : TurnG P w K tg (Itr lo n) [it] it (fun i h => IsRangeIter h it (lo + (i : Nat) * 1) ((n : Int) - (i : Nat)) 1) where
  mem := by simp
  obj := fun i h st b hb => by
    have e : b = it := by simpa using hb
    subst e
    exact ⟨_, st, fun v z => by
      have z' : Data.fields _ = Data.cell v := z
      cases z'⟩
  keep := fun i h h' st k => k it (by simp) _ st
  item := by
    intro X hP hw hK i pins s σ H E I hf st hg
    subst hP hw hK
    obtain ⟨f0, f1, f2, f3, f4, f5⟩ := hf it (by simp)
    have hlt : i < n := hg
    refine wpAny_pyNext_range_item st (by omega) fun h' st' sb => ?_
    have st2 : IsRangeIter h' it (lo + ((i + 1 : Nat) : Int) * 1) ((n : Int) - ((i + 1 : Nat) : Int)) 1 := by
      have e1 : lo + ((i : Nat) : Int) * 1 + 1 = lo + ((i + 1 : Nat) : Int) * 1 := by omega
      have e2 : (n : Int) - ((i : Nat) : Int) - 1 = (n : Int) - ((i + 1 : Nat) : Int) := by omega
      rw [← e1, ← e2]
      exact st'
    have I1 : Inv X pins σ H { s with heap := h', toks := s.toks + 1 } := I.turned (fun b o hb e => (sb.2 b hb).trans e) f0 f1 f3 f4 f5
    refine ⟨_, rfl, go_of (s := { s with heap := h', toks := s.toks + 1 }) (n := "range_iterator") st2 rfl rfl (by decide) ⟨.int (lo + i), H, I1, ⟨s.toks, ?_⟩, ⟨rfl, rfl⟩, st2, fun b hb => (hf b hb).1⟩⟩
    rw [Int.mul_one]
  done := by
    intro X hP hw hK i pins s σ H E hc I hf st hg
    subst hP hw hK
    obtain ⟨f0, f1, f2, f3, f4, f5⟩ := hf it (by simp)
    obtain ⟨x1, hot⟩ := hc
    exact pyNext_range_end_hot hot st (by have : n ≤ i := hg; omega) fun h' eb => ⟨rfl, I.turned (t' := s.toks) (fun b o _ e => eb b o e) f0 f1 f3 f4 f5⟩
  self := fun _ _ _ _ _ st h => wpAny_pyIter_rangeiter st h
def PIEG (X : Cx) (pins : List (Addr × Obj)) (σ : L2.St) (tg : Expr) (R : L2.It → Hp → Prop) (itv : Value) (s2 : Shared) : Prop :=
  ∃ (it : Addr) (fp : List Addr) (tn : Nat → Heap → Prop) (J : L2.It) (H' : Hp), itv = .ref it ∧ Inv X pins σ H' s2 ∧ TurnG X.prog X.w X.K tg J fp it tn ∧ tn 0 s2.heap ∧ (∀ b ∈ fp, FpOk X pins H' b) ∧ R J H'
structure PIG (X : Cx) (tg iter : Expr) (wi : TI) : Prop where
  run : ∀ (pins : List (Addr × Obj)) (s : Shared) (σ : L2.St) (H : Hp) (R : L2.It → Hp → Prop), Inv X pins σ H s → wi σ H R →
    wpAny (model X.prog X.w) X.A (eval iter X.env) (fun v s1 => wpAny (model X.prog X.w) X.A (pyIter v) (PIEG X pins σ tg R) X.xe s1) X.xe s
section
variable {X : Cx} {tg : Expr}
theorem range_itG {pins : List (Addr × Obj)} {σ : L2.St} {H : Hp} {s : Shared} {R : L2.It → Hp → Prop} {E : Value → Shared → Prop} {lo hi : Int} {t u v : Tok} {tk : Nat} (I : Inv X pins σ H s) (h1 : -(2 ^ 62) ≤ lo) (h2 : lo < 2 ^ 62) (h3 : -(2 ^ 62) ≤ hi) (h4 : hi < 2 ^ 62)
    (q : R (Itr lo (hi - lo).toNat) H) : wpAny (model X.prog X.w) X.A (pyIter (.ref s.heap.objs.size)) (PIEG X pins σ tg R) E { s with heap := s.heap.push { cls := .type "range", data := .fields #[.int lo t, .int hi u, .int 1 v] }, toks := tk } := by
  refine wpAny_pyIter_range (IsRange.new ..) (small_one h1 h2 h3 h4) ?_
  have I1 : Inv X pins σ H { s with heap := s.heap.push { cls := .type "range", data := .fields #[.int lo t, .int hi u, .int 1 v] }, toks := tk } := I.kept fun b o e => Heap.get?_push_of_some _ e
  refine ⟨(s.heap.push { cls := .type "range", data := .fields #[.int lo t, .int hi u, .int 1 v] }).objs.size, [(s.heap.push { cls := .type "range", data := .fields #[.int lo t, .int hi u, .int 1 v] }).objs.size], _, _, H, rfl,
    I1.kept (t' := tk) fun b o e => Heap.get?_push_of_some _ e, turn_rangeG _ lo (hi - lo).toNat, ?_, fun b hb => ?_, q⟩
  · have e1 : lo + ((0 : Nat) : Int) * 1 = lo := by simp
    have e2 : (((hi - lo).toNat : Nat) : Int) - ((0 : Nat) : Int) = Builtin.Range.rangeSize lo hi 1 := by rw [rangeSize_one]; split <;> omega
    show IsRangeIter _ _ (lo + ((0 : Nat) : Int) * 1) ((((hi - lo).toNat : Nat) : Int) - ((0 : Nat) : Int)) 1
    rw [e1, e2]
    exact Heap.get?_push_size _ rfl
  · have e : b = (s.heap.push { cls := .type "range", data := .fields #[.int lo t, .int hi u, .int 1 v] }).objs.size := by simpa using hb
    subst e
    exact I1.fpOk (Nat.le_refl _) (I1.hok.fresh (Nat.le_refl _))
theorem pi_range1G {a : Expr} {ta : TA} {p pos : Pos} (hg : Gl X "range") (hm : X.mg "range" = none) (ha : PA X [a] ta) (hs : starEach [a] X.env = [(false, eval a X.env)] := by rfl) : PIG X tg (.Call (.Name "range" p) [a] [] pos) (iRng1 ta) := by
  refine ⟨fun pins s σ H R I h => ?_⟩
  refine Call_ (ld_blt I hg hm boot_range (PyProof.Rows.callWith_type1 (thn (ha.run pos pins s σ H _ I h) fun us s1 ⟨vs, H1, I1, r1, q1⟩ => ?_) hs rfl))
  obtain ⟨j, e, q1, q2, q⟩ := q1
  subst e
  cases r1 with
  | cons r rr =>
    cases rr
    obtain ⟨t, rfl⟩ := r
    exact call_range_1 (range_itG I1 (by omega) (by omega) q1 q2 (by simpa using q))
end
section
variable {X : Cx}
theorem lc_coreG {pins : List (Addr × Obj)} {s : Shared} {σ : L2.St} {H : Hp} {Q : VK} {elt tg iter : Expr} {ifs : List Expr} {scope : Scope} {own : List (Str × Nat)} {pos pos' : Pos} {wi : TI} {g : TG} {tt : TT} {te : TE} {use : Option (Value → Sem Unit)} {Qf : Value → Shared → Prop}
    (hc : HotC X) (hN : X.N.Nodup) (I : Inv X pins σ H s) (hi : PIG X tg iter wi) (ok : BlkOk X.N X.env.scope scope own)
    (hg : ∀ (s : Shared) (H : Hp) (C : Addr) (cl : List (Str × Addr)) (fp : List Addr), PG (X.blk s H scope (compEnvC scope cl C X.env) fp) tg g) (ht : ∀ (s : Shared) (H : Hp) (C : Addr) (cl : List (Str × Addr)) (fp : List Addr), PTs (X.blk s H scope (compEnvC scope cl C X.env) fp) ifs tt)
    (he : ∀ (s : Shared) (H : Hp) (C : Addr) (cl : List (Str × Addr)) (fp : List Addr), PE (X.blk s H scope (compEnvC scope cl C X.env) fp) elt te) (hs : ∀ x, foldedSetIterable iter X.env x = pure x)
    (h : tLc wi g tt te (own.map (·.2)) σ H Q)
    (hRR : ∀ D C s' m H', Inv X pins σ H' s' → Q (.ref D) H' → s'.heap.Ns C m → FpOk X pins H' C → compPost (model X.prog X.w) X.A X.xe use Qf (.ref D) C (.ok .next) s') :
    wpAny (model X.prog X.w) X.A (comprehension (.ListComp elt [⟨tg, iter, ifs, 0⟩] scope pos) scope X.env pos' (newList []) false (eval iter X.env) use) Qf X.xe s := by
  have hfree : ∀ y ∈ scope.names, y.2 = .free → ∃ c, X.env.cells.lookup y.1 = some c := fun y hy e => by
    rcases ok.free y hy e with k | k
    · exact I.ok.has _ (.inl k)
    · exact I.ok.has _ (.inr k)
  refine wpAny_comprehension_free (use := use) rfl hs (closure_ok hfree) ok.kind (fun y hy e => by rw [ok.uniq y hy, e])
    (thn (hi.run pins s σ H _ I h) fun xv s1 hx => thn hx fun itv s2 h2 => ?_)
  obtain ⟨it, fp, tn, J, H2, e, I2, T, st2, f2, q⟩ := h2
  subst e
  refine wpAny_newObj_type (newEnv_comp ?_) (by show 0 ≤ sizeLine; decide)
  generalize hD : s2.heap.objs.size = D
  have hDn : H2 D = none := I2.hok.fresh (Nat.le_of_eq hD)
  obtain ⟨W, ⟨m0, w0⟩, turn⟩ := q D hDn
  -- the new list
  generalize hs3 : ({ s2 with heap := s2.heap.push { cls := .type "list", data := .seq ([] : List Value).toArray } } : Shared) = s3
  have I3 : Inv X pins σ (upd H2 D (.lst [])) s3 := by
    rw [← hs3]
    refine I2.laid (t' := s2.toks) (fun b o e => Heap.get?_push_of_some _ e) (Nat.le_of_eq hD) ⟨Nat.zero_le _, [], 0, .nil, ?_⟩
    rw [← hD]
    exact Heap.get?_push_size _ rfl
  have h3 : s3.heap = s2.heap.push { cls := .type "list", data := .seq ([] : List Value).toArray } := by rw [← hs3]
  have sz : ∀ b ∈ fp, b < s2.heap.objs.size := fun b hb => by
    obtain ⟨o, e, _⟩ := T.obj _ _ st2 b hb
    exact Heap.lt_size e
  have f3 : ∀ b ∈ fp, FpOk X pins (upd H2 D (.lst [])) b ∧ b < s3.heap.objs.size := fun b hb => by
    have hlt := sz b hb
    refine ⟨⟨?_, (f2 b hb).2⟩, by rw [h3, Heap.size_push]; exact Nat.lt_succ_of_lt hlt⟩
    rw [upd_ne (by rw [← hD]; exact Nat.ne_of_lt hlt)]
    exact (f2 b hb).1
  have st3 : tn 0 s3.heap := T.keep _ _ _ st2 fun b _ o e => by rw [h3]; exact Heap.get?_push_of_some _ e
  have I4 := block_start I3 ok hN f3
  have pg := hg s3 (upd H2 D (.lst [])) s3.heap.objs.size (cellsFrom (s3.heap.objs.size + 1) scope.names (cloFrom X.env.cells scope.names [])) fp
  have pt := ht s3 (upd H2 D (.lst [])) s3.heap.objs.size (cellsFrom (s3.heap.objs.size + 1) scope.names (cloFrom X.env.cells scope.names [])) fp
  have pe := he s3 (upd H2 D (.lst [])) s3.heap.objs.size (cellsFrom (s3.heap.objs.size + 1) scope.names (cloFrom X.env.cells scope.names [])) fp
  show codeAny _ _ (.compStart (.ListComp elt [⟨tg, iter, ifs, 0⟩] scope pos) 0 (.ref it) (.ref D) (compEnvC scope (cellsFrom (s3.heap.objs.size + 1) scope.names (cloFrom X.env.cells scope.names [])) s3.heap.objs.size X.env)) (compPost (model X.prog X.w) X.A X.xe use Qf (.ref D) s3.heap.objs.size) { s3 with heap := pushCells (s3.heap.push { cls := .type "dict", data := .dict #[] }) scope.names }
  have nfp : ∀ b ∈ fp, (upd H2 D (.lst [])) b = none := fun b hb => (f3 b hb).1.1
  generalize hce : compEnvC scope (cellsFrom (s3.heap.objs.size + 1) scope.names (cloFrom X.env.cells scope.names [])) s3.heap.objs.size X.env = ce at I4 pg pt pe ⊢
  have cL : ce.locals = s3.heap.objs.size := by subst hce; rfl
  generalize hH3 : upd H2 D (.lst []) = H3 at I3 I4 pg pt pe w0 nfp f3
  generalize hs4 : ({ s3 with heap := pushCells (s3.heap.push { cls := .type "dict", data := .dict #[] }) scope.names } : Shared) = s4 at I4 ⊢
  have st4 : tn 0 s4.heap := T.keep _ _ _ st3 fun b _ o e => by rw [← hs4]; exact pushCells_keeps _ _ _ _ (Heap.get?_push_of_some _ e)
  have stat : ∀ {σ' : L2.St} {H' : Hp} {s' : Shared}, Inv (X.blk s3 H3 scope ce fp) [] σ' H' s' → (∀ b ∈ fp, H' b = none) → ∀ b ∈ fp, FpOk (X.blk s3 H3 scope ce fp) [] H' b := fun {σ' H' s'} I' hn b hb =>
    ⟨hn b hb, (I'.ok.exf b hb).1, I'.ok.exfs b hb, .inl hb, fun x c e => (I'.ok.exf b hb).2 x c e, fun p hp => absurd (show p ∈ ([] : List (Addr × Obj)) ++ [] from hp) (by simp)⟩
  have loop : codeAny (model X.prog X.w) X.A (.compLoop (.ListComp elt [⟨tg, iter, ifs, 0⟩] scope pos) 0 (.ref it) (.ref D) ce) (compPost (model X.prog X.w) X.A X.xe use Qf (.ref D) s3.heap.objs.size) s4 := by
    refine compLoop_any (fun n s' => ∃ i H', Inv (X.blk s3 H3 scope ce fp) [] (wipe σ (own.map (·.2))) H' s' ∧ tn i s'.heap ∧ (∀ b ∈ fp, H' b = none) ∧ W i n H') ?_ m0 ⟨0, H3, I4, st4, nfp, w0⟩
    rintro n s5 ⟨i, H5, I5, st5, n5, w5⟩
    rcases turn i n H5 w5 with ⟨stop, qq⟩ | ⟨go, Nx, hNx, step⟩
    · have hot5 : ∃ x1, HotAt (X.blk s3 H3 scope ce fp).A x1 s5.heap := by
        obtain ⟨p, ⟨hh, v1, e1, c1⟩, hp⟩ := hc
        obtain ⟨g1, g2, g3, g4, g5⟩ := I3.pin p (List.mem_append_left _ hp)
        have nfpp : p.1 ∉ fp := fun z => ((f3 p.1 z).1.2.2.2.2.2 p (List.mem_append_left _ hp)) rfl
        obtain ⟨sl, e2⟩ := I5.base.any g1 g2 nfpp
        exact ⟨p.1, hh, _, v1, e2, e1, c1⟩
      have td := T.done (X.blk s3 H3 scope ce fp) rfl rfl rfl i [] s5 _ H5 (fun _ _ => False) hot5 I5 (stat I5 n5) st5 stop
      refine thnF td fun r s6 ⟨hr, I6⟩ => ?_
      subst hr
      -- back in the def's context
      have I7 : Inv X pins σ H5 s6 := I3.call' (ch := fp) I6.os I6.base I6.hok I6.bare fun b hb => ⟨(f3 b hb).1.2.2.2.1, (f3 b hb).1.2.1, (f3 b hb).1.2.2.2.2.1, (f3 b hb).1.2.2.2.2.2⟩
      have nC : H5 s3.heap.objs.size = none := by
        have z : H5 ce.locals = none := I6.free
        rw [cL] at z
        exact z
      obtain ⟨m, hn, _⟩ := I6.loc
      have hn : s6.heap.Ns ce.locals m := hn
      rw [cL] at hn
      exact hRR D s3.heap.objs.size s6 m H5 I7 qq hn (I3.fpOk (Nat.le_refl _) nC)
    · have ti := T.item (X.blk s3 H3 scope ce fp) rfl rfl rfl i [] s5 _ H5 (fun _ _ => False) I5 (stat I5 n5) st5 go
      refine thnF ti fun r s6 ⟨u, hr, h6⟩ => ?_
      subst hr
      refine thnF h6 fun _ s7 ⟨x, H7, I7, r7, y7, st7, n7⟩ => ?_
      have I7' := I7.pinned (stat I7 n7) (T.obj _ _ st7)
      refine thnF (pg.run _ s7 _ H7 x u _ I7' r7 (step x H7 y7)) fun _ s8 ⟨σ8, H8, I8, hw8, q8⟩ => ?_
      refine thnF (pt.run _ s8 σ8 H8 _ I8 q8) fun b s9 ⟨H9, I9, q9⟩ => ?_
      -- the turn's end
      have fin : ∀ {s' : Shared} {H' : Hp}, Inv (X.blk s3 H3 scope ce fp) ([] ++ pinsAt fp s7.heap) σ8 H' s' → Nx H' → ∃ m, m < n ∧ ∃ i H', Inv (X.blk s3 H3 scope ce fp) [] (wipe σ (own.map (·.2))) H' s' ∧ tn i s'.heap ∧ (∀ b ∈ fp, H' b = none) ∧ W i m H' := fun {s' H'} I' nx => by
        obtain ⟨m', hm, w'⟩ := hNx H' nx
        have pin' : ∀ b ∈ fp, ∀ o, s7.heap.get? b = some o → s'.heap.get? b = some o ∧ H' b = none := fun b hb o e =>
          let z := I'.pin (b, o) (List.mem_append_right _ (List.mem_append_right _ (mem_pinsAt hb e)))
          ⟨z.1, z.2.1⟩
        have hl : (wipe σ (own.map (·.2))).length = σ8.length := by rw [← hw8, wipe_length]
        refine ⟨m', hm, i + 1, H', (I'.unpinned (pins := [])).weak hl (fun j v e => ?_), T.keep _ _ _ st7 fun b hb o e => (pin' b hb o e).1, fun b hb => ?_, w'⟩
        · rw [← hw8] at e
          exact (wipe_some e).1
        · obtain ⟨o, e, _⟩ := T.obj _ _ st7 b hb
          exact (pin' b hb o e).2
      cases b with
      | false =>
        simp only [Bool.false_eq_true, if_false] at q9 ⊢
        exact fin I9 q9
      | true =>
        simp only [if_true] at q9 ⊢
        refine thnF (pe.run _ s9 σ8 H9 _ I9 q9) fun z s10 ⟨yv, H10, I10, r10, acc, hD10, hz10, nx⟩ => ?_
        exact app_ok (X := X.blk s3 H3 scope ce fp) I10 hD10 hz10 r10 fun s11 I11 => fin I11 nx
  exact codeAny_compStart_list loop (T.self X.A 0 _ _ _ st4 loop)
/-- name = [..] on one line, the name a local -/
theorem ps_setLcG {i : Nat} {y : Str} {py : Pos} {elt tg iter : Expr} {ifs : List Expr} {scope : Scope} {own : List (Str × Nat)} {pos spos : Pos} {wi : TI} {g : TG} {tt : TT} {te : TE} (hc : HotC X) (hN : X.N.Nodup) (hy : X.N[i]? = some y) (hyl : X.env.scope.names.lookup y = some .local)
    (hsw : swapsWith (.ListComp elt [⟨tg, iter, ifs, 0⟩] scope pos) (some (.Name y py)) spos.line X.env = pure true) (hi : PIG X tg iter wi) (ok : BlkOk X.N X.env.scope scope own)
    (hg : ∀ (s : Shared) (H : Hp) (C : Addr) (cl : List (Str × Addr)) (fp : List Addr), PG (X.blk s H scope (compEnvC scope cl C X.env) fp) tg g) (ht : ∀ (s : Shared) (H : Hp) (C : Addr) (cl : List (Str × Addr)) (fp : List Addr), PTs (X.blk s H scope (compEnvC scope cl C X.env) fp) ifs tt)
    (he : ∀ (s : Shared) (H : Hp) (C : Addr) (cl : List (Str × Addr)) (fp : List Addr), PE (X.blk s H scope (compEnvC scope cl C X.env) fp) elt te) (hs : ∀ x, foldedSetIterable iter X.env x = pure x := by intro _; rfl) :
    PS X (.Assign [.Name y py] (.ListComp elt [⟨tg, iter, ifs, 0⟩] scope pos) spos) (tAsg (tLc wi g tt te (own.map (·.2))) (gName i)) := by
  refine ⟨fun pins s σ H D I h => ?_⟩
  rw [exec_Assign_Name_used _ _ _ _ hsw]
  refine wpAny_bind (wpAny_standAt (wpAny_bind ?_))
  show wpAny _ X.A (do let _ ← comprehension (.ListComp elt [⟨tg, iter, ifs, 0⟩] scope pos) scope X.env (firstIterPos [⟨tg, iter, ifs, 0⟩] pos) (newList []) false (eval iter X.env) (some (assign (.Name y py) X.env))) _ _ s
  have h : tLc wi g tt te (own.map (·.2)) σ H (fun x H1 => gName i x σ H1 D.nx) := h
  refine wpAny_bind (thn (lc_coreG (Qf := fun _ s' => SP X pins D .next s') hc hN I hi ok hg ht he hs h fun L C s' m H' I' q hn f => ?_) fun _ s' hq => wpAny_pure (wpAny_pure hq))
  show wpAny _ _ (assign (.Name y py) X.env (.ref L)) _ _ _
  refine wpAny_assign_Name (store_ok2 (v := V.ref L) I' hN hy (.inl hyl) rfl (fun s2 I2 ⟨a, sb, ha⟩ => ?_) (.inr hyl))
  obtain ⟨f0, f1, f2, f3, f4, f5⟩ := f
  have haC : C ≠ a := by
    rcases ha with z | z
    · rw [z]; exact f1
    · exact fun e => f4 y a z e.symm
  refine ⟨m, hn.sameBut sb haC, fun h3 sb3 => ?_⟩
  exact ⟨_, H', I2.turned (t' := s2.toks) (fun b o hb e => (sb3.2 b hb).trans e) f0 f1 f3 f4 f5, q⟩
end
end NL

namespace NL
open PySem PySem.Spec PyProof.Rows L2 L2H HotX
/-! ### a def that is given the error that is handled -/
abbrev SpE := Addr → Value → Option Addr → Sp
structure FnE (P : Program) (w : World) (K : PySem.W.Frag) (mg : Str → Option Value) (base : Heap) (CX : CXT) (k : Nat) (f : Addr) (fd : FuncData) (ps : List Str) (sp : SpE) : Prop where
  len : ∀ a cls d vs H Q E, sp a cls d vs H Q E → vs.length = ps.length
  run : ∀ (A : Around) (outer : List Env) (s : Shared) (H : Hp) (args : Args) (us : List Value) (vs : List V) (Q : VK) (E : XK) (p : Addr × Obj) (cls : Value) (d : Option Addr), RoomH k A → Hot1 A p → Zc cls d p.2 → PinOk outer H s p → Env0 P w K mg base A outer s H → BindsTo s fd args (ps.zip us) → Vals vs us → sp p.1 cls d vs H Q E →
    codeAny (model P w) A (.call (.ref f) args) (CR CX outer P w H s Q E) s
theorem fn_ofE {CX : CXT} {P : Program} {w : World} {K : PySem.W.Frag} {mg : Str → Option Value} {base : Heap} {k : Nat} {f : Addr} {name qual : Str} {params : Arguments} {body : List Stmt} {scope : Scope} {dV kV doc pm cdv ct oc : Value} {an od : Option Addr}
    {osl : Array (Option Value)} {N ps : List Str} {sp : SpE} (lk : K.lookup f = some ⟨oc, od, .func (PySem.W.fnOf name qual params body scope dV kV doc pm an cdv ct), osl⟩) (hcd : PySem.W.codeIn K cdv qual = true) (S : FnScope N ps scope)
    (len : ∀ a cls d vs H Q E, sp a cls d vs H Q E → vs.length = ps.length)
    (hbody : ∀ (A : Around) (outer : List Env) (s : Shared) (H : Hp) (vs : List V) (Q : VK) (E : XK) (p : Addr × Obj) (cls : Value) (d : Option Addr), Hot1 A p → Zc cls d p.2 → RoomH k (A.deeper (envOfC qual scope s.heap.objs.size f cdv)) → sp p.1 cls d vs H Q E →
      ∃ t, PSs (cxH CX P w K mg base N qual scope f cdv A outer s H E p) body t ∧ t { nx := fun _ H' => Q .non H', rt := Q } (L2.start N vs) H) :
    FnE P w K mg base CX (k + 1) f (PySem.W.fnOf name qual params body scope dV kV doc pm an cdv ct) ps sp := by
  refine ⟨len, fun A outer s H args us vs Q E p cls d hr hot hz hpin e0 hb r hsp => ?_⟩
  have hl := len _ _ _ _ _ _ _ hsp
  have KX : K.In s.heap := e0.mod.kin.keeps fun b o e => (e0.bs b o e).1
  have lim : s.heap.NoLimit := e0.mod.nolimit.keeps fun b o e => (e0.bs b o e).1
  have hkind : ∀ y ∈ ps.zip us, scope.names.lookup y.1 = some .local ∨ (scope.names.lookup y.1 = some .cell ∧ ((cellsFrom (s.heap.objs.size + 1) scope.names []).lookup y.1).isSome = true) := fun ⟨n, v⟩ hy => by
    rcases S.par n (List.of_mem_zip hy).1 with q | q
    · exact .inl q
    · exact .inr ⟨q, PySem.W.cellsFrom_some _ _ _ (.inl q)⟩
  refine codeAny_call_function hr.depth (KX _ _ lk) rfl S.co S.gen rfl (PySem.W.codeRec_of KX hcd) (hb _ _ _ _ ?_)
  refine wpAny_newFunctionEnv_cells S.kind hkind fun env he s1 x => ?_
  subst he
  refine ⟨lim.keeps x.toInCall.keep, codeAny_func ?_⟩
  obtain ⟨t, ht, hq⟩ := hbody A outer s H vs Q E p cls d hot hz (hr.deeper _) hsp
  have I : Inv (cxH CX P w K mg base N qual scope f cdv A outer s H E p) [] (L2.start N vs) H s1 := inv_startH S hpin e0 hl r x
  refine wpAny_mono (ht.run [] s1 (L2.start N vs) H _ I hq) (fun fl s' hs => ?_) fun e s' hs => hs
  have fin : ∀ {σ' : L2.St} {H' : Hp} {v : V} {u : Value}, Inv (cxH CX P w K mg base N qual scope f cdv A outer s H E p) [] σ' H' s' → RelV v u → Q v H' → CE outer P w H s Q u s' :=
    fun {σ' H' v u} J rv q => ⟨v, H', J.os, J.bare, J.base, J.hok, rv, q⟩
  cases fl with
  | ret u =>
    obtain ⟨v, σ', H', J, rv, q⟩ := hs
    exact fin J rv q
  | next =>
    obtain ⟨σ', H', J, q⟩ := hs
    exact fin (v := V.non) (u := Value.none) J rfl q
  | brk =>
    obtain ⟨_, _, _, q⟩ := hs
    exact False.elim q
  | cont =>
    obtain ⟨_, _, _, q⟩ := hs
    exact False.elim q
section
variable {P : Program} {w : World} {K : PySem.W.Frag} {mg : Str → Option Value} {base : Heap}
theorem okE {x qual : Str} {st : Stmt} {f : Addr} {fd : FuncData} {N ps : List Str} {k : Nat} {sp : SpE} (F : L2.Fun K x qual st f fd) (S : FnScope N ps (defScope st)) (len : ∀ a cls d vs H Q E, sp a cls d vs H Q E → vs.length = ps.length)
    (hbody : ∀ (cdv : Value) (A : Around) (outer : List Env) (s : Shared) (H : Hp) (vs : List V) (Q : VK) (E : XK) (p : Addr × Obj) (cls : Value) (d : Option Addr), Hot1 A p → Zc cls d p.2 → RoomH k (A.deeper (envOfC qual (defScope st) s.heap.objs.size f cdv)) → sp p.1 cls d vs H Q E →
      ∃ t, PSs (cxH CX0 P w K mg base N qual (defScope st) f cdv A outer s H E p) (defBody st) t ∧ t { nx := fun _ H' => Q .non H', rt := Q } (L2.start N vs) H) : FnE P w K mg base CX0 (k + 1) f fd ps sp := by
  obtain ⟨oc, od, kV, doc, pm, an, cdv, ct, osl, rfl, lk, hcd⟩ := F.ex
  exact fn_ofE lk hcd S len fun A outer s H vs Q E p cls d hot hz hr hsp => hbody cdv A outer s H vs Q E p cls d hot hz hr hsp
/-- a def that may raise: the errors bear that nothing was handled where they were made -/
theorem okN {x qual : Str} {st : Stmt} {f : Addr} {fd : FuncData} {N ps : List Str} {k : Nat} {sp : Sp} (F : L2.Fun K x qual st f fd) (S : FnScope N ps (defScope st)) (len : ∀ vs H Q E, sp vs H Q E → vs.length = ps.length)
    (hbody : ∀ (cdv : Value) (A : Around) (outer : List Env) (s : Shared) (H : Hp) (vs : List V) (Q : VK) (E : XK), Room k (A.deeper (envOfC qual (defScope st) s.heap.objs.size f cdv)) → sp vs H Q E →
      ∃ t, PSs (cxOf (L2N.CX P w) P w K mg base N qual (defScope st) f cdv A outer s H E) (defBody st) t ∧ t { nx := fun _ H' => Q .non H', rt := Q } (start N vs) H) : FnOk P w K mg base (L2N.CX P w) (k + 1) f fd ps sp := by
  obtain ⟨oc, od, kV, doc, pm, an, cdv, ct, osl, rfl, lk, hcd⟩ := F.ex
  exact fn_of lk hcd S len fun A outer s H vs Q E hr hsp => hbody cdv A outer s H vs Q E hr hsp
end
theorem zn_hot {X : Cx} {a : Addr} {oe : Obj} {cls : Value} {d : Option Addr} {pn : List (Addr × Obj)} (hz : L2N.Zn cls d oe) (hf : ∃ vs, oe.data = .fields vs) : Hot1 (X.suite a ((a, oe) :: pn)).A (a, oe) := by
  obtain ⟨vs, hv⟩ := hf
  exact ⟨rfl, vs, hv, hz.2.2 vs hv⟩
section
variable {X : Cx} {CX : CXT} {k : Nat} {f : Addr} {fd : FuncData} {ps : List Str} {sp : SpE} {E : L2.St → XK} {x : Str} {q pos : Pos} {e : Expr} {es : List Expr} {t : TA}
theorem pe_callE {p : Addr × Obj} {cls : Value} {d : Option Addr} (F : FnE X.prog X.w X.K X.mg X.base CX k f fd ps sp) (hr : RoomH k X.A) (hot : Hot1 X.A p) (hp : p ∈ X.pn) (hz : Zc cls d p.2) (hg : Gl X x) (hm : X.mg x = some (.ref f)) (hk : PySem.W.keepIn X.K (.ref f) = true) (hb : Binds X.K fd ps []) (hx : ∀ σ, PassesAt CX X σ (E σ))
    (ha : PA X (e :: es) t) (hdb : (x == ("__debug__" : Str)) = false := by decide) (he : starEach (e :: es) X.env = (false, eval e X.env) :: starEach es X.env := by rfl) (hpl : (backTo pos (starEach es X.env)).any (·.1) = false := by rfl) :
    PE X (.Call (.Name x q) (e :: es) [] pos) (tCallS (sp p.1 cls d) E t) := by
  refine ⟨fun pins s σ H Q I h => ?_⟩
  refine wpAny_Call_Name_kw (ld_glob I hg hm ?_ hdb)
  refine PySem.W.callWith_K (h₀ := X.base) I.ok.mod.kin hk (thn (ha.run pos pins s σ H _ I h) fun us s1 ⟨vs, H1, I1, r, q⟩ => ⟨I1.kIn, ?_⟩) he hpl
  have hl : us.length = ps.length := by rw [← r.length]; exact F.len _ _ _ _ _ _ _ q
  have b := hb s1 us I1.kIn (by rw [List.append_nil]; exact hl)
  rw [List.append_nil] at b
  have P1 := I1.pin p (List.mem_append_left _ hp)
  have hpin : PinOk X.stack H1 s1 p := ⟨P1.1, P1.2.1, fun hm => (List.mem_cons.mp (I1.stkSub p.1 hm)).elim P1.2.2.1 P1.2.2.2.1, P1.2.2.2.2⟩
  refine wpAny_call (codeAny_mono (F.run X.A X.stack s1 H1 ⟨us, []⟩ us vs Q (E σ) p cls d hr hot hz hpin I1.env0 b r q) fun r s' hq => ?_)
  cases r with
  | error e => exact hx σ pins H1 s1 e s' I1 hq
  | ok fl =>
    cases fl with
    | ret u => exact I1.after hq
    | next => exact False.elim hq
    | brk => exact False.elim hq
    | cont => exact False.elim hq
end
/-- isinstance of the error that is handled -/
theorem call_isP {X : Cx} {D : Addr} {p : Addr × Obj} (C : ExcC X.K D) (hp : p ∈ X.pn) (hz : Zc (.ref D) none p.2) (hf : ∃ vs, p.2.data = .fields vs) : CallR X (.builtin "isinstance") (rIsE X.K D p.1) := by
  intro pins s σ H xs us Q I r h
  obtain ⟨c, cv, b, rfl, hcv, e, q⟩ := h
  cases r with
  | cons rx rr =>
    cases rr with
    | cons rt rr =>
      cases rr
      cases rx
      have ec := hcv _ rt
      subst ec
      obtain ⟨hget, _⟩ := I.pin p (List.mem_append_left _ hp)
      obtain ⟨vs, hv⟩ := hf
      have J : PySem.W.InstAt s.heap p.1 p.2 D none := by
        obtain ⟨a, oc, od, oda, osl⟩ := p
        obtain ⟨h1, h2⟩ := hz
        dsimp only at h1 h2 hv
        subst h1 h2 hv
        exact ⟨hget, rfl, rfl, trivial⟩
      exact PySem.W.kia_one (PySem.W.handS_kitx_exc C.hg C.hk C.hs C.hd C.ha C.hn C.ht C.hm) I.kIn J e (fun z => nomatch z) fun tk => ⟨.bl b, H, I.kept (t' := tk) fun _ _ z => z, rfl, q⟩
end NL

namespace NL
open PySem PySem.Spec PyProof.Rows L2

/-! ### frames: what stays while the list of draws at d is used up -/
structure Go (d : Addr) (H H' : Hp) : Prop where
  fr : ∀ b o, b ≠ d → H b = some o → H' b = some o
  dr : ∃ ns : List Int, H' d = some (.lst (ns.map V.int))
abbrev Dr (H : Hp) (d : Addr) : Prop := ∃ ns : List Int, H d = some (.lst (ns.map V.int))
theorem Go.refl {d : Addr} {H : Hp} (h : Dr H d) : Go d H H := ⟨fun _ _ _ e => e, h⟩
theorem Go.trans {d : Addr} {H H1 H2 : Hp} (a : Go d H H1) (b : Go d H1 H2) : Go d H H2 := ⟨fun c o n e => b.fr c o n (a.fr c o n e), b.dr⟩
theorem Go.new {d p : Addr} {H : Hp} {o : HO} (h : Dr H d) (hp : H p = none) : Go d H (upd H p o) := by
  obtain ⟨ns, e⟩ := h
  have n : d ≠ p := ne_of_none e hp
  exact ⟨fun b u _ q => by rw [upd_ne (ne_of_none q hp)]; exact q, ⟨ns, by rw [upd_ne n]; exact e⟩⟩
theorem Go.put {d : Addr} {H : Hp} (ns : List Int) : Go d H (upd H d (.lst (ns.map V.int))) := ⟨fun b u n q => by rw [upd_ne n]; exact q, ⟨ns, upd_same⟩⟩
theorem Go.same {d : Addr} {H H' : Hp} (h : Dr H d) (s : Same H H') : Go d H H' := ⟨fun b o _ e => s b o e, by obtain ⟨ns, e⟩ := h; exact ⟨ns, s _ _ e⟩⟩
theorem Go.tup {d a : Addr} {H H' : Hp} {xs : List V} (g : Go d H H') (h : Dr H d) (e : H a = some (.tup xs)) : H' a = some (.tup xs) := by
  refine g.fr a _ ?_ e
  rintro rfl
  obtain ⟨ns, q⟩ := h
  rw [e] at q; cases q
theorem same_new {H : Hp} {p : Addr} (h : H p = none) (o : HO) : Same H (upd H p o) := fun b u q => by rw [upd_ne (ne_of_none q h)]; exact q
/-- all tuples stay -/
def Tp (H H' : Hp) : Prop := ∀ a xs, H a = some (.tup xs) → H' a = some (.tup xs)
theorem Go.tp {d : Addr} {H H' : Hp} (g : Go d H H') (h : Dr H d) : Tp H H' := fun _ _ e => g.tup h e
theorem Tp.same {H H' : Hp} (s : Same H H') : Tp H H' := fun _ _ e => s _ _ e
theorem Tp.trans {H H1 H2 : Hp} (a : Tp H H1) (b : Tp H1 H2) : Tp H H2 := fun x y e => b x y (a x y e)
theorem Tp.refl {H : Hp} : Tp H H := fun _ _ e => e
/-- a list that stays readable whatever is drawn at d -/
def Keep (K : PySem.W.Frag) (d : Addr) (H : Hp) (a : Addr) (xs : List V) : Prop := ∀ H', (∀ b o, b ≠ d → H b = some o → H' b = some o) → SqL K H' a xs
theorem Keep.now {K : PySem.W.Frag} {d a : Addr} {H : Hp} {xs : List V} (k : Keep K d H a xs) : SqL K H a xs := k H fun _ _ _ e => e
theorem Keep.go {K : PySem.W.Frag} {d a : Addr} {H H' : Hp} {xs : List V} (k : Keep K d H a xs) (g : Go d H H') : Keep K d H' a xs := fun H2 f => k H2 fun b o n e => f b o n (g.fr b o n e)
theorem Keep.of {K : PySem.W.Frag} {d a : Addr} {H : Hp} {xs : List V} (n : a ≠ d) (h : H a = some (.lst xs)) : Keep K d H a xs := fun H' f => .inl (.inl (f a _ n h))
/-- what was read ahead of the draws' list stays -/
theorem Keep.old {K : PySem.W.Frag} {d a : Addr} {H0 H : Hp} {xs : List V} (h : SqL K H0 a xs) (hd : H0 d = none) (f : ∀ b o, H0 b = some o → H b = some o) : Keep K d H a xs := fun H' g => by
  rcases h with (h | ⟨o, h⟩) | h
  · exact .inl (.inl (g a _ (ne_of_none h hd) (f _ _ h)))
  · exact .inl (.inr ⟨o, g a _ (ne_of_none h hd) (f _ _ h)⟩)
  · exact .inr h

/-! ### rules whose written part is named (in a comprehension) -/
theorem ix_tupK {X : Cx} {K : PySem.W.Frag} (h : X.K = K) : IxR X (rIxT K) := by subst h; exact ix_tup
theorem ix_listK {X : Cx} {K : PySem.W.Frag} (h : X.K = K) : IxR X (rIxL K) := by subst h; exact ix_list
def rTupOf (K : PySem.W.Frag) : List V → Hp → VK → Prop := fun xs H Q => ∃ p ys, xs = [.ref p] ∧ ((SqL K H p ys ∧ ∀ l, H l = none → Q (.ref l) (upd H l (.tup ys))) ∨ (SqT K H p ys ∧ Q (.ref p) H))
theorem call_tuple_ofK {X : Cx} {K : PySem.W.Frag} (h : X.K = K) : CallR X (.type "tuple") (rTupOf K) := by subst h; exact call_tuple_of
/-! ### texts and words -/
/-- signs a to z alone -/
def Wd (z : Str) : Prop := ∀ c ∈ z.cps.toList, 97 ≤ c ∧ c ≤ 122
instance (z : Str) : Decidable (Wd z) := by unfold Wd; infer_instance
def res : List Str := ["true", "false", "add", "sub", "mul", "div", "mod", "min", "max", "abs", "if", "less", "equal", "not", "all", "any"]
theorem app_list (a b : Str) : (a ++ b).cps.toList = a.cps.toList ++ b.cps.toList := by
  show (a.cps ++ b.cps).toList = _
  simp
theorem len_list (a : Str) : a.length = a.cps.toList.length := by
  show a.cps.size = _
  simp
theorem len_app (a b : Str) : (a ++ b).length = a.length + b.length := by
  rw [len_list, app_list, List.length_append, ← len_list, ← len_list]
theorem str_ext {a b : Str} (h : a.cps.toList = b.cps.toList) : a = b := by
  cases a with | mk x => cases b with | mk y =>
  have : x = y := Array.toList_inj.mp h
  rw [this]
theorem Wd.app {a b : Str} (ha : Wd a) (hb : Wd b) : Wd (a ++ b) := fun c hc => by
  rw [app_list] at hc
  rcases List.mem_append.mp hc with h | h
  · exact ha c h
  · exact hb c h
structure Nam (z : Str) : Prop where
  wd : Wd z
  len : 0 < z.length ∧ z.length ≤ 200
  nr : z ∉ res
structure Nm (z : Str) : Prop where
  wd : Wd z
  len : 0 < z.length ∧ z.length ≤ 150

/-! ### lists at an index -/
theorem atI_mem {α : Type} {xs : List α} {i : Int} (h0 : 0 ≤ i) (h1 : i < xs.length) : ∃ v, atI xs i = some v ∧ v ∈ xs := by
  have hk : i.toNat < xs.length := by omega
  have ek : i = ((i.toNat : Nat) : Int) := by omega
  have q : atI xs ((i.toNat : Nat) : Int) = some xs[i.toNat] := atI_nat (List.getElem?_eq_getElem hk)
  rw [← ek] at q
  exact ⟨_, q, List.getElem_mem hk⟩
theorem atI_map {α β : Type} {f : α → β} {xs : List α} {i : Int} (h0 : 0 ≤ i) (h1 : i < xs.length) : ∃ v, atI (xs.map f) i = some (f v) ∧ v ∈ xs := by
  obtain ⟨v, h, m⟩ := atI_mem (xs := xs.map f) h0 (by rw [List.length_map]; exact h1)
  obtain ⟨u, hu, rfl⟩ := List.mem_map.mp m
  exact ⟨u, h, hu⟩
theorem sqd {K : PySem.W.Frag} {H : Hp} {a : Addr} {xs : List V} (h : H a = some (.lst xs)) : SqL K H a xs := .inl (.inl h)
theorem sqt {K : PySem.W.Frag} {H : Hp} {a : Addr} {xs : List V} (h : H a = some (.tup xs)) : SqT K H a xs := .inl (.inl h)
theorem int_eq {i j : Int} (h : decide (V.int i = V.int j) = true) : i = j := V.int.inj (of_decide_eq_true h)
theorem int_ne {i j : Int} (h : ¬ decide (V.int i = V.int j) = true) : i ≠ j := fun e => h (decide_eq_true (by rw [e]))
section
variable {P : Program} {w : World} {K : PySem.W.Frag} {mg : Str → Option Value} {base : Heap}
/-! ### _law_take -/
def spTake : Sp := fun vs H Q _ => ∃ (d : Addr) (m : Int), vs = [.ref d, .int m] ∧ Dr H d ∧ 0 < m ∧ ∀ r H', Go d H H' → 0 ≤ r → r < m → Q (.int r) H'
theorem ok_law_take (T : Txt K mg) : FnOk P w K mg base CX0 1 T.a_law_take T.d_law_take P_law_take spTake := by
  refine T.F_law_take.ok sc_law_take (fun vs H Q E h => ?_) (fun cdv A outer s H vs Q E hr h => ?_)
  · obtain ⟨d, m, rfl, _⟩ := h
    rfl
  obtain ⟨d, m, rfl, hD, hm, q⟩ := h
  refine ⟨_, (pss_cons (ps_if (pt_cmpR op_eq (pe_callB call_len_seq (by rfl) T.z_len PySem.boot_len (pa_cons (pv 0) pa_nil)) pe_int (nomark _))
    (pss_one (ps_ret pe_int))
    pss_nil)
    (pss_one (ps_ret (pe_op op_mod (pe_callTy call_int1 (by rfl) T.z_int (by decide +kernel) (pa_cons (pe_bm0 PySem.F.plainAttrs_list PySem.F.slot_list_pop PySem.F.type_list_pop mt_pop (pv 0)) pa_nil)) (pv 1))))), ?_⟩
  obtain ⟨ns, hd⟩ := hD
  refine ⟨_, rfl, _, _, rfl, .inl (sqd hd), rfl, _, rfl, ?_⟩
  refine ite2 (fun c => ?_) (fun c => ?_)
  · exact q 0 H (Go.refl ⟨ns, hd⟩) (Int.le_refl 0) hm
  · have hn := int_ne c
    rw [List.length_map] at hn
    have hz : ns ≠ [] := by
      rintro rfl
      exact hn rfl
    have hl : 0 < ns.length := List.length_pos_iff.mpr hz
    have he : (ns.map V.int)[(ns.map V.int).length - 1]? = some (.int ns[ns.length - 1]) := by
      rw [List.length_map, List.getElem?_map, List.getElem?_eq_getElem (by omega)]
      rfl
    refine ⟨_, rfl, .inl ⟨rfl, _, sqd hd⟩, _, _, _, rfl, rfl, hd, he, .inl ⟨_, rfl, ?_⟩⟩
    refine ⟨_, rfl, _, _, rfl, rfl, hm, ?_⟩
    refine q _ _ ?_ (Int.emod_nonneg _ (by omega)) (Int.emod_lt_of_pos _ hm)
    rw [← List.map_dropLast]
    exact Go.put _
end
end NL

namespace NL
open PySem PySem.Spec PyProof.Rows L2
/-! ### a text times a number -/
theorem op_mulS {X : Cx} : OpR X (binaryOp .Mult) (fun x y H Q => ∃ (z : Str) (k : Int), x = .str z ∧ y = .int k ∧ z.length ≤ 16 ∧ 0 ≤ k ∧ k ≤ 1000 ∧ ((Txt.mul z k).length = z.length * k.toNat → Q (.str (Txt.mul z k)) H)) := by
  intro pins s σ H x y v u Q I rx ry h
  obtain ⟨z, k, rfl, rfl, hz, h0, h1, q⟩ := h
  obtain ⟨t, rfl⟩ := rx
  obtain ⟨t', rfl⟩ := ry
  refine PySem.W.KXi.mul rfl hz (by omega) (by omega) fun t' tk _ hl => ⟨.str (Txt.mul z k), H, I.tok _, ⟨_, rfl⟩, q ?_⟩
  have e := hl h0
  have e2 : k = ((k.toNat : Nat) : Int) := by omega
  rw [e2] at e
  have : ((z.length : Int) * ((k.toNat : Nat) : Int)) = ((z.length * k.toNat : Nat) : Int) := by push_cast; rfl
  rw [this] at e
  have e3 := Int.ofNat.inj e
  rw [← e2] at e3
  exact e3
def abc : Str := "abcdefghijklmnopqrstuvwxyz"
theorem abc_at {i : Int} (h0 : 0 ≤ i) (h1 : i < 26) : ∃ c, atI abc.cps.toList i = some c ∧ 97 ≤ c ∧ c ≤ 122 := by
  have hl : abc.cps.toList.length = 26 := by decide +kernel
  obtain ⟨c, h, m⟩ := atI_mem (xs := abc.cps.toList) h0 (by rw [hl]; exact h1)
  have hall : ∀ c ∈ abc.cps.toList, 97 ≤ c ∧ c ≤ 122 := by decide +kernel
  exact ⟨c, h, hall c m⟩
section
variable {P : Program} {w : World} {K : PySem.W.Frag} {mg : Str → Option Value} {base : Heap}
/-! ### _law_cell -/
def spCell (K : PySem.W.Frag) : Sp := fun vs H Q _ => ∃ (a d : Addr) (ns : List Int), vs = [.ref a, .ref d] ∧ Keep K d H a (ns.map V.int) ∧ Dr H d ∧ ∀ r H', Go d H H' → (r = 0 ∨ r ∈ ns) → Q (.int r) H'
theorem ok_law_cell (T : Txt K mg) : FnOk P w K mg base CX0 2 T.a_law_cell T.d_law_cell P_law_cell (spCell K) := by
  have G_law_take := ok_law_take (P := P) (w := w) (base := base) T
  refine T.F_law_cell.ok sc_law_cell (fun vs H Q E h => ?_) (fun cdv A outer s H vs Q E hr h => ?_)
  · obtain ⟨a, d, ns, rfl, _⟩ := h
    rfl
  obtain ⟨a, d, ns, rfl, hk, hD, q⟩ := h
  refine ⟨_, (pss_cons (ps_if (pt_cmpR op_eq (pe_callB call_len_seq (by rfl) T.z_len PySem.boot_len (pa_cons (pv 0) pa_nil)) pe_int (nomark _))
    (pss_one (ps_ret pe_int))
    pss_nil)
    (pss_one (ps_ret (pe_callTy call_int1 (by rfl) T.z_int (by decide +kernel) (pa_cons (pe_ix ix_list (pv 0) (pe_call G_law_take (hr.mono (by omega)) (by rfl) T.m_law_take T.F_law_take.kp T.b_law_take .nil pass0 (pa_cons (pv 1) (pa_cons (pe_callB call_len_seq (by rfl) T.z_len PySem.boot_len (pa_cons (pv 0) pa_nil)) pa_nil))) (fun _ _ => rfl)) pa_nil))))), ?_⟩
  refine ⟨_, rfl, _, _, rfl, .inl hk.now, rfl, _, rfl, ?_⟩
  refine ite2 (fun c => ?_) (fun c => ?_)
  · exact q 0 H (Go.refl hD) (.inl rfl)
  · have hn := int_ne c
    rw [List.length_map] at hn
    refine ⟨_, rfl, _, rfl, _, rfl, _, _, rfl, .inl hk.now, d, _, rfl, hD, by rw [List.length_map]; omega, fun r H1 g h0 h1 => ?_⟩
    rw [List.length_map] at h1
    obtain ⟨v, hv, hm⟩ := atI_map (f := V.int) h0 h1
    exact ⟨_, _, _, _, rfl, rfl, (hk.go g).now, hv, .inl ⟨_, rfl, q v H1 g (.inr hm)⟩⟩
/-! ### _law_word -/
def spWord : Sp := fun vs H Q _ => ∃ i : Int, vs = [.int i] ∧ ∀ z : Str, Wd z → z.length ≤ 60 → (1 ≤ i → 0 < z.length) → Q (.str z) H
theorem ok_law_word (T : Txt K mg) : FnOk P w K mg base CX0 1 T.a_law_word T.d_law_word P_law_word spWord := by
  refine T.F_law_word.ok sc_law_word (fun vs H Q E h => ?_) (fun cdv A outer s H vs Q E hr h => ?_)
  · obtain ⟨i, rfl, _⟩ := h
    rfl
  obtain ⟨i0, rfl, q⟩ := h
  refine ⟨_, (pss_cons (ps_set (i := 1) sc_law_word.nd rfl (Or.inl rfl) pe_str)
    (pss_cons (ps_for PassesOwn.never rfl (pi_range1 (by rfl) T.z_range (pa_cons pe_int pa_nil)) (pg_name (i := 2) sc_law_word.nd rfl (Or.inl rfl))
    (pss_cons (ps_if (pt_cmpR op_lt (pv 0) pe_int (nomark _))
    (pss_one ps_break)
    pss_nil)
    (pss_cons (ps_set (i := 1) sc_law_word.nd rfl (Or.inl rfl) (pe_op op_add_str (pe_ix ix_str pe_str (pe_op op_mod (pe_callTy call_int1 (by rfl) T.z_int (by decide +kernel) (pa_cons (pe_op op_sub (pv 0) pe_int) pa_nil)) pe_int) (fun _ _ => rfl)) (pv 1)))
    (pss_one (ps_set (i := 0) sc_law_word.nd rfl (Or.inl rfl) (pe_op op_fdiv (pe_op op_sub (pv 0) pe_int) pe_int))))))
    (pss_one (ps_ret (pv 1))))), ?_⟩
  refine ⟨60, rfl, by decide, by decide, for_range (lo := 0) (n := 60) (fun j σ H' => ∃ (i : Int) (z : Str) (y : Option V), σ = [some (.int i), some (.str z), y] ∧ H' = H ∧ Wd z ∧ z.length ≤ j ∧ (j = 0 → i = i0) ∧ (0 < j → 0 < z.length)) ?_ ?_ ?_⟩
  · exact ⟨i0, _, none, rfl, rfl, (by decide +kernel), (by decide +kernel), fun _ => rfl, fun h => absurd h (by decide)⟩
  · rintro j σ H' hj ⟨i, z, y, rfl, rfl, hw, hz, e0, e1⟩
    refine ⟨_, rfl, _, _, rfl, rfl, _, rfl, ?_⟩
    refine ite2 (fun c => ?_) (fun c => ?_)
    · have hi : i < 1 := of_decide_eq_true c
      exact ⟨_, rfl, q z hw (by omega) fun h1 => e1 (by
        rcases Nat.eq_zero_or_pos j with e | e
        · have := e0 e
          omega
        · exact e)⟩
    · obtain ⟨ch, hc, hc1⟩ := abc_at (Int.emod_nonneg (i - 1) (by decide : (26 : Int) ≠ 0)) (Int.emod_lt_of_pos (i - 1) (by decide))
      have hw1 : Wd (⟨#[ch]⟩ : Str) := fun c h => by
        have : c = ch := by simpa using h
        rw [this]
        exact hc1
      have hl : ((⟨#[ch]⟩ : Str) ++ z).length = 1 + z.length := by rw [len_app] <;> rfl
      refine ⟨_, rfl, _, _, rfl, rfl, .inl ⟨_, rfl, _, _, rfl, rfl, (by show (0 : Int) < 26; decide), _, _, ch, rfl, rfl, (by decide +kernel), hc, _, rfl, _, _, rfl, rfl, ?_, ?_⟩⟩
      · have : (⟨#[ch]⟩ : Str).length = 1 := rfl
        rw [this]
        exact Nat.le_of_lt (small1000 (by omega))
      · refine ⟨_, rfl, _, _, rfl, rfl, _, _, rfl, rfl, ⟨by decide, by decide⟩, ?_⟩
        exact ⟨_, _, _, rfl, rfl, hw1.app hw, by rw [hl]; omega, fun h => absurd h (by omega), fun _ => by rw [hl]; omega⟩
  · rintro σ H' ⟨i, z, y, rfl, rfl, hw, hz, e0, e1⟩
    exact ⟨_, rfl, q z hw hz fun _ => e1 (by decide)⟩
end
end NL

namespace NL
open PySem PySem.Spec PyProof.Rows L2
section
variable {P : Program} {w : World} {K : PySem.W.Frag} {mg : Str → Option Value} {base : Heap}
/-! ### _law_some_word -/
theorem fold_wd {p : Nat → Prop} : ∀ (l : List (Array Nat)) (acc : Array Nat), (∀ c ∈ acc.toList, p c) → (∀ a ∈ l, ∀ c ∈ a.toList, p c) → ∀ c ∈ (l.foldl (· ++ ·) acc).toList, p c
  | [], acc, h, _, c, hc => h c hc
  | a :: r, acc, h, g, c, hc => by
    refine fold_wd r (acc ++ a) (fun c hc => ?_) (fun a ha => g a (List.mem_cons_of_mem _ ha)) c hc
    rw [Array.toList_append] at hc
    rcases List.mem_append.mp hc with h1 | h1
    · exact h c h1
    · exact g a List.mem_cons_self c h1
theorem mul_wd {z : Str} (h : Wd z) (k : Int) : Wd (Txt.mul z k) := by
  unfold Txt.mul
  split
  · decide
  · split
    · exact h
    · refine fold_wd _ _ (fun c hc => by simp at hc) fun a ha => ?_
      rw [(List.mem_replicate.mp ha).2]
      exact h
def spSomeWord : Sp := fun vs H Q _ => ∃ d : Addr, vs = [.ref d] ∧ Dr H d ∧ ∀ z H', Go d H H' → Nm z → Q (.str z) H'
theorem ok_law_some_word (T : Txt K mg) : FnOk P w K mg base CX0 2 T.a_law_some_word T.d_law_some_word P_law_some_word spSomeWord := by
  have G_law_take := ok_law_take (P := P) (w := w) (base := base) T
  have G_law_word := ok_law_word (P := P) (w := w) (base := base) T
  refine T.F_law_some_word.ok sc_law_some_word (fun vs H Q E h => ?_) (fun cdv A outer s H vs Q E hr h => ?_)
  · obtain ⟨d, rfl, _⟩ := h
    rfl
  obtain ⟨d, rfl, hD, q⟩ := h
  refine ⟨_, (pss_cons (ps_set (i := 1) sc_law_some_word.nd rfl (Or.inl rfl) (pe_call G_law_take (hr.mono (by omega)) (by rfl) T.m_law_take T.F_law_take.kp T.b_law_take .nil pass0 (pa_cons (pv 0) (pa_cons pe_int pa_nil))))
    (pss_cons (ps_if (pt_cmpR op_lt (pv 1) pe_int (nomark _))
    (pss_one (ps_ret (pe_call G_law_word (hr.mono (by omega)) (by rfl) T.m_law_word T.F_law_word.kp T.b_law_word .nil pass0 (pa_cons (pe_op op_add (pe_op op_add pe_int (pe_op op_mod (pv 1) pe_int)) (pe_op op_mul pe_int (pe_op op_mod (pe_op op_fdiv (pv 1) pe_int) pe_int))) pa_nil))))
    pss_nil)
    (pss_cons (ps_if (pt_cmpR op_lt (pv 1) pe_int (nomark _))
    (pss_one (ps_ret (pe_call G_law_word (hr.mono (by omega)) (by rfl) T.m_law_word T.F_law_word.kp T.b_law_word .nil pass0 (pa_cons (pe_op op_add pe_int (pe_call G_law_take (hr.mono (by omega)) (by rfl) T.m_law_take T.F_law_take.kp T.b_law_take .nil pass0 (pa_cons (pv 0) (pa_cons pe_int pa_nil)))) pa_nil))))
    pss_nil)
    (pss_cons (ps_if (pt_cmpR op_lt (pv 1) pe_int (nomark _))
    (pss_one (ps_ret (pe_op op_add_str (pe_op op_mulS pe_str (pe_op op_add pe_int (pe_op op_mod (pe_callTy call_int1 (by rfl) T.z_int (by decide +kernel) (pa_cons (pv 1) pa_nil)) pe_int))) (pe_call G_law_word (hr.mono (by omega)) (by rfl) T.m_law_word T.F_law_word.kp T.b_law_word .nil pass0 (pa_cons (pe_op op_add pe_int (pe_call G_law_take (hr.mono (by omega)) (by rfl) T.m_law_take T.F_law_take.kp T.b_law_take .nil pass0 (pa_cons (pv 0) (pa_cons pe_int pa_nil)))) pa_nil)))))
    pss_nil)
    (pss_cons (ps_set (i := 2) sc_law_some_word.nd rfl (Or.inl rfl) (pe_op op_add (pe_op op_mul pe_int (pe_call G_law_take (hr.mono (by omega)) (by rfl) T.m_law_take T.F_law_take.kp T.b_law_take .nil pass0 (pa_cons (pv 0) (pa_cons pe_int pa_nil)))) (pe_op op_mul pe_int (pe_call G_law_take (hr.mono (by omega)) (by rfl) T.m_law_take T.F_law_take.kp T.b_law_take .nil pass0 (pa_cons (pv 0) (pa_cons pe_int pa_nil))))))
    (C8.pss_cut (ps_if (pt_cmpR op_ge (pv 1) pe_int (nomark _))
    (pss_one (ps_set (i := 2) sc_law_some_word.nd rfl (Or.inl rfl) (pe_op op_mul (pv 2) (pe_op op_pow pe_int pe_int))))
    pss_nil)
    (pss_one (ps_ret (pe_call G_law_word (hr.mono (by omega)) (by rfl) T.m_law_word T.F_law_word.kp T.b_law_word .nil pass0 (pa_cons (pe_op op_add (pe_op op_add pe_int (pv 2)) (pe_call G_law_take (hr.mono (by omega)) (by rfl) T.m_law_take T.F_law_take.kp T.b_law_take .nil pass0 (pa_cons (pv 0) (pa_cons pe_int pa_nil)))) pa_nil)))))))))), ?_⟩
  -- number = take(draws, 1000)
  refine ⟨_, rfl, d, _, rfl, hD, (by decide), fun n H1 g1 n0 n1 => ?_⟩
  -- if number < 600
  refine ⟨_, rfl, _, _, rfl, rfl, _, rfl, ?_⟩
  refine ite2 (fun c => ?_) (fun c => ?_)
  · refine ⟨_, rfl, _, _, rfl, rfl, (by show (0 : Int) < 6; decide), _, _, rfl, rfl, _, rfl, _, _, rfl, rfl, ⟨by decide, by decide⟩, _, _, rfl, rfl, (by show (0 : Int) < 2; decide), _, _, rfl, rfl, .inl ⟨by decide, by decide⟩, _, _, rfl, rfl, _, rfl, fun z hw hl hp => ?_⟩
    have b1 := Int.emod_nonneg n (by decide : (6 : Int) ≠ 0)
    have b2 := Int.emod_nonneg (n / 100) (by decide : (2 : Int) ≠ 0)
    exact q z H1 g1 ⟨hw, hp (by omega), by omega⟩
  -- if number < 850
  refine ⟨_, rfl, _, _, rfl, rfl, _, rfl, ?_⟩
  refine ite2 (fun c => ?_) (fun c => ?_)
  · refine ⟨_, rfl, d, _, rfl, g1.dr, (by decide), fun r H2 g2 r0 r1 => ?_⟩
    refine ⟨_, _, rfl, rfl, _, rfl, fun z hw hl hp => ?_⟩
    exact q z H2 (g1.trans g2) ⟨hw, hp (by omega), by omega⟩
  -- if number < 875
  refine ⟨_, rfl, _, _, rfl, rfl, _, rfl, ?_⟩
  refine ite2 (fun c => ?_) (fun c => ?_)
  · have b1 := Int.emod_nonneg n (by decide : (6 : Int) ≠ 0)
    have b2 := Int.emod_lt_of_pos n (by decide : (0 : Int) < 6)
    refine ⟨_, rfl, .inl ⟨_, rfl, _, _, rfl, rfl, (by show (0 : Int) < 6; decide), _, _, rfl, rfl, _, _, rfl, rfl, (by decide +kernel), (by omega), (by omega), fun hm => ?_⟩⟩
    refine ⟨_, rfl, d, _, rfl, g1.dr, (by decide), fun r H2 g2 r0 r1 => ?_⟩
    refine ⟨_, _, rfl, rfl, _, rfl, fun z hw hl hp => ?_⟩
    have l12 : ("abcdefghijkl" : Str).length = 12 := by decide +kernel
    have w12 : Wd ("abcdefghijkl" : Str) := by decide +kernel
    rw [l12] at hm
    have hb : (1 + n % 6).toNat ≤ 6 := by omega
    have hp' := hp (by omega)
    refine ⟨_, _, rfl, rfl, ?_, q _ H2 (g1.trans g2) ⟨(mul_wd w12 _).app hw, ?_, ?_⟩⟩
    · rw [hm]
      exact Nat.le_of_lt (small1000 (by omega))
    · rw [len_app]; omega
    · rw [len_app, hm]; omega
  -- great = ..
  refine ⟨_, rfl, d, _, rfl, g1.dr, (by decide), fun r H2 g2 r0 r1 => ?_⟩
  refine ⟨_, _, rfl, rfl, .inl ⟨by decide, by decide⟩, ?_⟩
  refine ⟨_, rfl, d, _, rfl, g2.dr, (by decide), fun t H3 g3 t0 t1 => ?_⟩
  refine ⟨_, _, rfl, rfl, .inl ⟨by decide, by decide⟩, _, _, rfl, rfl, ?_⟩
  refine ⟨fun σ H4 => ∃ gr : Int, 0 ≤ gr ∧ σ = [some (.ref d), some (.int n), some (.int gr)] ∧ Go d H H4, ?_, ?_⟩
  · refine ⟨_, rfl, _, _, rfl, rfl, _, rfl, ?_⟩
    refine ite2 (fun c => ?_) (fun c => ?_)
    · refine ⟨_, rfl, _, _, rfl, rfl, ⟨by decide, by decide, by decide⟩, _, _, rfl, rfl, ?_, ?_⟩
      · left
        constructor <;> omega
      · refine ⟨_, ?_, rfl, (g1.trans g2).trans g3⟩
        have : (0 : Int) ≤ 10 ^ (Int.toNat 15) := by decide
        exact Int.mul_nonneg (by omega) this
    · exact ⟨_, by omega, rfl, (g1.trans g2).trans g3⟩
  · rintro σ H4 ⟨gr, hg, rfl, g4⟩
    refine ⟨_, rfl, _, _, rfl, rfl, _, rfl, d, _, rfl, g4.dr, (by decide), fun u H5 g5 u0 u1 => ?_⟩
    refine ⟨_, _, rfl, rfl, _, rfl, fun z hw hl hp => ?_⟩
    exact q z H5 (g4.trans g5) ⟨hw, hp (by omega), by omega⟩
/-! ### _law_reserved -/
def spReserved : Sp := fun vs H Q _ => vs = [] ∧ ∀ p H', Same H H' → H p = none → H' p = some (.lst (res.map V.str)) → Q (.ref p) H'
theorem ok_law_reserved (T : Txt K mg) : FnOk P w K mg base CX0 1 T.a_law_reserved T.d_law_reserved P_law_reserved spReserved := by
  refine T.F_law_reserved.ok sc_law_reserved (fun vs H Q E h => ?_) (fun cdv A outer s H vs Q E hr h => ?_)
  · obtain ⟨rfl, _⟩ := h
    rfl
  obtain ⟨rfl, q⟩ := h
  refine ⟨_, (pss_cons (ps_set (i := 0) sc_law_reserved.nd rfl (Or.inl rfl) (pe_lst (pa_cons pe_str (pa_cons pe_str (pa_cons pe_str (pa_cons pe_str (pa_cons pe_str (pa_cons pe_str (pa_cons pe_str (pa_cons pe_str (pa_cons pe_str (pa_cons pe_str pa_nil))))))))))))
    (pss_one (ps_ret (pe_op op_cat (pv 0) (pe_lst (pa_cons pe_str (pa_cons pe_str (pa_cons pe_str (pa_cons pe_str (pa_cons pe_str (pa_cons pe_str pa_nil))))))))))), ?_⟩
  refine ⟨(by decide), fun p hp => ?_⟩
  refine ⟨_, rfl, (by decide), fun p2 hp2 => ?_⟩
  have n12 : p ≠ p2 := ne_of_none upd_same hp2
  refine ⟨_, _, _, _, rfl, rfl, (by rw [upd_ne n12]; exact upd_same), upd_same, (by decide), fun p3 hp3 => ?_⟩
  refine q p3 _ ?_ ?_ ?_
  · exact (same_new hp _).trans ((same_new hp2 _).trans (same_new hp3 _))
  · exact ((same_new hp _).trans (same_new hp2 _)).free hp3
  · rw [upd_same]
    rfl
end
end NL

namespace NL
open PySem PySem.Spec PyProof.Rows L2
/-! ### the tree of an expression or a condition -/
inductive It where
  | num (n : Int)
  | name (x : Str)
  | lit (b : Bool)
  | un (w : Str) (a : It)
  | dm (w : Str) (a : It) (n : Int)
  | bin (w : Str) (a b : It)
  | tri (a b c : It)
  | grp (w : Str) (l : List It)
def bstr (b : Bool) : Str := if b then "true" else "false"
/-- the tree stands at v -/
inductive ItemIn (H : Hp) : It → V → Prop where
  | num {n a} : H a = some (.tup [.str "number", .int n]) → ItemIn H (.num n) (.ref a)
  | name {x a} : H a = some (.tup [.str "name", .str x]) → ItemIn H (.name x) (.ref a)
  | lit {b a} : H a = some (.tup [.str (bstr b)]) → ItemIn H (.lit b) (.ref a)
  | un {w i a x} : H a = some (.tup [.str w, x]) → ItemIn H i x → ItemIn H (.un w i) (.ref a)
  | dm {w i n a x} : H a = some (.tup [.str w, x, .int n]) → ItemIn H i x → ItemIn H (.dm w i n) (.ref a)
  | bin {w i j a x y} : H a = some (.tup [.str w, x, y]) → ItemIn H i x → ItemIn H j y → ItemIn H (.bin w i j) (.ref a)
  | tri {i j k a x y z} : H a = some (.tup [.str "if", x, y, z]) → ItemIn H i x → ItemIn H j y → ItemIn H k z → ItemIn H (.tri i j k) (.ref a)
  | grp {w l a b xs} : H a = some (.tup [.str w, .ref b]) → H b = some (.tup xs) → xs.length = l.length → (∀ (k : Nat) i x, l[k]? = some i → xs[k]? = some x → ItemIn H i x) → ItemIn H (.grp w l) (.ref a)
theorem ItemIn.mono {H H' : Hp} (t : Tp H H') {i : It} {v : V} (h : ItemIn H i v) : ItemIn H' i v := by
  induction h with
  | num e => exact .num (t _ _ e)
  | name e => exact .name (t _ _ e)
  | lit e => exact .lit (t _ _ e)
  | un e _ ih => exact .un (t _ _ e) ih
  | dm e _ ih => exact .dm (t _ _ e) ih
  | bin e _ _ ih jh => exact .bin (t _ _ e) ih jh
  | tri e _ _ _ ih jh kh => exact .tri (t _ _ e) ih jh kh
  | grp e f g _ ih => exact .grp (t _ _ e) (t _ _ f) g ih
theorem ItemIn.go {d : Addr} {H H' : Hp} {i : It} {v : V} (h : ItemIn H i v) (g : Go d H H') (hD : Dr H d) : ItemIn H' i v := h.mono (g.tp hD)
theorem ItemIn.ref {H : Hp} {i : It} {v : V} (h : ItemIn H i v) : ∃ a, v = .ref a := by cases h <;> exact ⟨_, rfl⟩
mutual
def It.dep : It → Nat
  | .num _ => 1
  | .name _ => 1
  | .lit _ => 1
  | .un _ a => 1 + a.dep
  | .dm _ a _ => 1 + a.dep
  | .bin _ a b => 1 + max a.dep b.dep
  | .tri a b c => 1 + max a.dep (max b.dep c.dep)
  | .grp _ l => 1 + depL l
def depL : List It → Nat
  | [] => 0
  | a :: r => max a.dep (depL r)
end
mutual
def It.sz : It → Nat
  | .num _ => 1
  | .name _ => 1
  | .lit _ => 1
  | .un _ a => 1 + a.sz
  | .dm _ a _ => 1 + a.sz
  | .bin _ a b => 1 + a.sz + b.sz
  | .tri a b c => 1 + a.sz + b.sz + c.sz
  | .grp _ l => 1 + szL l
def szL : List It → Nat
  | [] => 0
  | a :: r => a.sz + szL r
end
/-- the least divisor: 1 where B is even, any where it is odd -/
def lo (B : Nat) : Int := if B % 2 = 0 then 1 else -(B : Int) - 1
theorem lo_le {B : Nat} {n : Int} (h : 1 ≤ n) : lo B ≤ n := by unfold lo; split <;> omega
/-- of the right kinds: conditions (true) and expressions (false), over names, ints within B -/
inductive Okx (xs : List Str) (B : Nat) : Bool → It → Prop where
  | num {n} : n.natAbs ≤ B → Okx xs B false (.num n)
  | name {x} : x ∈ xs → Okx xs B false (.name x)
  | lit {b} : Okx xs B true (.lit b)
  | abs {a} : Okx xs B false a → Okx xs B false (.un "abs" a)
  | not {a} : Okx xs B true a → Okx xs B true (.un "not" a)
  | dm {w a n} : w ∈ (["div", "mod"] : List Str) → Okx xs B false a → lo B ≤ n → n.natAbs ≤ B + 1 → Okx xs B false (.dm w a n)
  | bin {w a b} : w ∈ (["add", "sub", "mul", "min", "max"] : List Str) → Okx xs B false a → Okx xs B false b → Okx xs B false (.bin w a b)
  | cmp {w a b} : w ∈ (["less", "equal"] : List Str) → Okx xs B false a → Okx xs B false b → Okx xs B true (.bin w a b)
  | tri {a b c} : Okx xs B true a → Okx xs B false b → Okx xs B false c → Okx xs B false (.tri a b c)
  | grp {w l} : w ∈ (["all", "any"] : List Str) → l.length ≤ 100 → (∀ i ∈ l, Okx xs B true i) → Okx xs B true (.grp w l)
theorem dep_pos : ∀ i : It, 1 ≤ i.dep
  | .num _ => by rw [It.dep]; omega
  | .name _ => by rw [It.dep]; omega
  | .lit _ => by rw [It.dep]; omega
  | .un _ a => by rw [It.dep]; omega
  | .dm _ a _ => by rw [It.dep]; omega
  | .bin _ a b => by rw [It.dep]; omega
  | .tri a b c => by rw [It.dep]; omega
  | .grp _ l => by rw [It.dep]; omega
section
variable {P : Program} {w : World} {K : PySem.W.Frag} {mg : Str → Option Value} {base : Heap}
/-! ### _law_name -/
theorem flat_res : (res.map V.str).all flatV = true := by decide +kernel
theorem flat_strs' (ys : List Str) : (ys.map V.str).all flatV = true := by
  rw [List.all_map]
  exact List.all_eq_true.mpr fun _ _ => rfl
theorem inV_str {x : Str} {ys : List Str} : inV (.str x) (ys.map V.str) = decide (x ∈ ys) := by
  unfold inV
  rw [List.any_map]
  induction ys with
  | nil => rfl
  | cons y r ih =>
    rw [List.any_cons, ih]
    show (eqV (.str y) (.str x) || _) = _
    have e : eqV (.str y) (.str x) = decide (x = y) := by
      show (y == x) = _
      rw [Bool.beq_eq_decide_eq]
      exact decide_eq_decide.mpr ⟨fun h => h.symm, fun h => h.symm⟩
    rw [e]
    by_cases h : x = y
    · rw [decide_eq_true h, decide_eq_true (List.mem_cons.mpr (.inl h)), Bool.true_or]
    · rw [decide_eq_false h, Bool.false_or]
      exact decide_eq_decide.mpr ⟨fun m => List.mem_cons_of_mem _ m, fun m => (List.mem_cons.mp m).resolve_left h⟩
theorem res_wd : ∀ z ∈ res, Wd z ∧ 2 ≤ z.length ∧ z.length ≤ 5 := by decide +kernel
theorem not_x : ∀ z ∈ res, ∀ y ∈ res, y ++ ("x" : Str) ≠ z := by decide +kernel
def spName : Sp := fun vs H Q _ => ∃ d : Addr, vs = [.ref d] ∧ Dr H d ∧ ∀ z H', Go d H H' → Nam z → Q (.str z) H'
theorem wd_cut {z : Str} (h : Wd z) (lo hi : Option Int) : Wd (cutS z lo hi) := fun c hc => by
  refine h c ?_
  unfold cutS at hc
  exact List.mem_of_mem_drop (List.mem_of_mem_take (by simpa using hc))
theorem len_cut1 {z : Str} (h : 2 ≤ z.length) : (cutS z none (some (-1))).length = z.length - 1 := by
  rw [len_list]
  unfold cutS
  rw [HT.sIx_none, show HT.sIx z.length z.length (some (-1)) = z.length - 1 by
    show (if (-1 : Int) < 0 then ((-1 : Int) + (z.length : Int)).toNat else min (-1 : Int).toNat z.length) = z.length - 1
    rw [if_pos (by decide)]
    omega]
  rw [List.toList_toArray, List.length_take, List.length_drop, ← len_list]
  omega
theorem ok_law_name (T : Txt K mg) : FnOk P w K mg base CX0 3 T.a_law_name T.d_law_name P_law_name spName := by
  have G_law_take := ok_law_take (P := P) (w := w) (base := base) T
  have G_law_some_word := ok_law_some_word (P := P) (w := w) (base := base) T
  have G_law_reserved := ok_law_reserved (P := P) (w := w) (base := base) T
  refine T.F_law_name.ok sc_law_name (fun vs H Q E h => ?_) (fun cdv A outer s H vs Q E hr h => ?_)
  · obtain ⟨d, rfl, _⟩ := h
    rfl
  obtain ⟨d, rfl, hD, q⟩ := h
  refine ⟨_, (pss_cons (ps_set (i := 1) sc_law_name.nd rfl (Or.inl rfl) (pe_call0 G_law_reserved (hr.mono (by omega)) (by rfl) T.m_law_reserved T.F_law_reserved.kp T.b_law_reserved .nil pass0))
    (pss_cons (ps_set (i := 2) sc_law_name.nd rfl (Or.inl rfl) (pe_call G_law_some_word (hr.mono (by omega)) (by rfl) T.m_law_some_word T.F_law_some_word.kp T.b_law_some_word .nil pass0 (pa_cons (pv 0) pa_nil)))
    (C8.pss_cut (ps_if (pt_cmpR op_eq (pe_call G_law_take (hr.mono (by omega)) (by rfl) T.m_law_take T.F_law_take.kp T.b_law_take .nil pass0 (pa_cons (pv 0) (pa_cons pe_int pa_nil))) pe_int (nomark _))
    (pss_cons (ps_set (i := 3) sc_law_name.nd rfl (Or.inl rfl) (pe_ix ix_list (pv 1) (pe_call G_law_take (hr.mono (by omega)) (by rfl) T.m_law_take T.F_law_take.kp T.b_law_take .nil pass0 (pa_cons (pv 0) (pa_cons pe_int pa_nil))) (fun _ _ => rfl)))
    (pss_one (ps_set (i := 2) sc_law_name.nd rfl (Or.inl rfl) (pe_ix ix_list (pe_lst (pa_cons (pe_op op_add_str (pv 3) pe_str) (pa_cons (pe_slice sl_str (pv 3) po_none (po_some (pe_un un_neg pe_int))) (pa_cons (pe_op op_add_str pe_str (pv 3)) pa_nil)))) (pe_call G_law_take (hr.mono (by omega)) (by rfl) T.m_law_take T.F_law_take.kp T.b_law_take .nil pass0 (pa_cons (pv 0) (pa_cons pe_int pa_nil))) (fun _ _ => rfl)))))
    pss_nil)
    (pss_cons (ps_if (pt_cmpR op_in_seq (pv 2) (pv 1) (by rfl))
    (pss_one (ps_ret (pe_op op_add_str (pv 2) pe_str)))
    pss_nil)
    (pss_one (ps_ret (pv 2))))))), ?_⟩
  refine ⟨rfl, fun kn H1 s1 n1 e1 => ?_⟩
  have hn : kn ≠ d := by
    rintro rfl
    obtain ⟨ns, hd⟩ := hD
    rw [n1] at hd; cases hd
  have g1 : Go d H H1 := .same hD s1
  have k1 : Keep K d H1 kn (res.map V.str) := .of hn e1
  refine ⟨_, rfl, d, rfl, g1.dr, fun z H2 g2 hz => ?_⟩
  refine ⟨fun σ H4 => ∃ (z : Str) (y : Option V), Nm z ∧ σ = [some (.ref d), some (.ref kn), some (.str z), y] ∧ Go d H1 H4, ?_, ?_⟩
  · refine ⟨_, rfl, d, _, rfl, g2.dr, (by decide), fun r H3 g3 r0 r1 => ?_⟩
    refine ⟨rfl, _, rfl, ?_⟩
    refine ite2 (fun c => ?_) (fun c => ?_)
    · refine ⟨_, rfl, _, rfl, d, _, rfl, g3.dr, (by decide), fun t H4 g4 t0 t1 => ?_⟩
      obtain ⟨nr, h1, h2⟩ := atI_map (f := V.str) (xs := res) t0 t1
      refine ⟨_, _, _, _, rfl, rfl, ((k1.go g2).go (g3.trans g4)).now, h1, ?_⟩
      obtain ⟨w1, w2, w3⟩ := res_wd nr h2
      have ws : Wd ("s" : Str) ∧ ("s" : Str).length = 1 ∧ Wd ("a" : Str) ∧ ("a" : Str).length = 1 := by decide +kernel
      have sz : ∀ n, n ≤ 1000 → n ≤ sizeLine := fun n h => Nat.le_of_lt (small1000 h)
      refine ⟨_, rfl, _, _, rfl, rfl, sz _ (by rw [ws.2.1]; omega), _, rfl, _, rfl, _, rfl, _, rfl, sz _ (by omega), _, rfl, _, _, rfl, rfl, sz _ (by rw [ws.2.2.2]; omega), (Nat.le_of_ble_eq_true rfl), fun p hp => ?_⟩
      have dp := g4.dr
      have g5 := fun o => Go.new (o := o) dp hp
      refine ⟨_, rfl, d, _, rfl, (g5 _).dr, (by decide), fun u H6 g6 u0 u1 => ?_⟩
      have np : p ≠ d := by
        rintro rfl
        obtain ⟨ns, hd⟩ := dp
        rw [hp] at hd; cases hd
      have e6 := g6.fr p _ np upd_same
      have l1 : Nm (nr ++ ("s" : Str)) := ⟨w1.app ws.1, by rw [len_app]; omega, by rw [len_app, ws.2.1]; omega⟩
      have l2 : Nm (cutS nr none (some (-1))) := ⟨wd_cut w1 _ _, by rw [len_cut1 w2]; omega, by rw [len_cut1 w2]; omega⟩
      have l3 : Nm (("a" : Str) ++ nr) := ⟨ws.2.2.1.app w1, by rw [len_app]; omega, by rw [len_app, ws.2.2.2]; omega⟩
      obtain ⟨v, hv, hm⟩ := atI_map (f := V.str) (xs := [nr ++ ("s" : Str), cutS nr none (some (-1)), ("a" : Str) ++ nr]) u0 u1
      refine ⟨_, _, _, _, rfl, rfl, sqd e6, hv, ?_⟩
      refine ⟨v, _, ?_, rfl, g2.trans (g3.trans (g4.trans ((g5 _).trans g6)))⟩
      simp only [List.mem_cons, List.not_mem_nil, or_false] at hm
      rcases hm with rfl | rfl | rfl
      · exact l1
      · exact l2
      · exact l3
    · exact ⟨z, none, hz, rfl, g2.trans g3⟩
  · rintro σ H4 ⟨z, y, hz, rfl, g4⟩
    refine ⟨_, rfl, _, rfl, _, _, rfl, .inl (k1.go g4).now, rfl, flat_res, _, rfl, ?_⟩
    rw [inV_str]
    refine ite2 (fun c => ?_) (fun c => ?_)
    · have hm : z ∈ res := of_decide_eq_true c
      have wx : Wd ("x" : Str) ∧ ("x" : Str).length = 1 := by decide +kernel
      refine ⟨_, rfl, _, _, rfl, rfl, ?_, q _ H4 (g1.trans g4) ⟨hz.wd.app wx.1, ?_, fun h => not_x _ h _ hm rfl⟩⟩
      · rw [wx.2]
        exact Nat.le_of_lt (small1000 (by have := hz.len; omega))
      · rw [len_app, wx.2]
        have := hz.len
        omega
    · have hm : z ∉ res := fun h => c (decide_eq_true h)
      exact ⟨_, rfl, q _ H4 (g1.trans g4) ⟨hz.wd, by have := hz.len; omega, hm⟩⟩
/-! ### _law_names -/
def spNames : Sp := fun vs H Q _ => ∃ (d : Addr) (m : Int), vs = [.ref d, .int m] ∧ Dr H d ∧ 0 ≤ m ∧ m ≤ 100 ∧
  ∀ (n : Addr) (xs : List Str) H', Go d H H' → H n = none → n ≠ d → H' n = some (.lst (xs.map V.str)) → (∀ x ∈ xs, Nam x) → xs.length ≤ m → xs.Nodup → (1 ≤ m → xs ≠ []) → Q (.ref n) H'
theorem ok_law_names (T : Txt K mg) : FnOk P w K mg base CX0 4 T.a_law_names T.d_law_names P_law_names spNames := by
  have G_law_name := ok_law_name (P := P) (w := w) (base := base) T
  refine T.F_law_names.ok sc_law_names (fun vs H Q E h => ?_) (fun cdv A outer s H vs Q E hr h => ?_)
  · obtain ⟨d, m, rfl, _⟩ := h
    rfl
  obtain ⟨d, m, rfl, hD, m0, m1, q⟩ := h
  refine ⟨_, (pss_cons (ps_set (i := 2) sc_law_names.nd rfl (Or.inl rfl) (pe_lst pa_nil))
    (pss_cons (ps_for PassesOwn.never rfl (pi_range1 (by rfl) T.z_range (pa_cons (pv 1) pa_nil)) (pg_name (i := 3) sc_law_names.nd rfl (Or.inl rfl))
    (pss_cons (ps_set (i := 4) sc_law_names.nd rfl (Or.inl rfl) (pe_call G_law_name (hr.mono (by omega)) (by rfl) T.m_law_name T.F_law_name.kp T.b_law_name .nil pass0 (pa_cons (pv 0) pa_nil)))
    (pss_one (ps_if (pt_cmpR op_notIn_seq (pv 4) (pv 2) (by rfl))
    (pss_one (ps_expr (pe_bm PySem.F.plainAttrs_list PySem.F.slot_list_append PySem.F.type_list_append mt_append (pv 2) (pa_cons (pv 4) pa_nil))))
    pss_nil))))
    (pss_one (ps_ret (pv 2))))), ?_⟩
  refine ⟨(by decide), fun n hn => ?_⟩
  have nd : n ≠ d := by
    rintro rfl
    obtain ⟨ns, hd⟩ := hD
    rw [hn] at hd; cases hd
  refine ⟨_, rfl, m, rfl, by omega, by omega, for_range (lo := 0) (n := m.toNat) (fun j σ H' => ∃ (xs : List Str) (y z : Option V), σ = [some (.ref d), some (.int m), some (.ref n), y, z] ∧ Go d H H' ∧ H' n = some (.lst (xs.map V.str)) ∧ (∀ x ∈ xs, Nam x) ∧ xs.length ≤ j ∧ xs.Nodup ∧ (0 < j → xs ≠ [])) ?_ ?_ ?_⟩
  · exact ⟨[], none, none, rfl, .new hD hn, upd_same, (fun x h => by cases h), Nat.le_refl _, List.nodup_nil, fun h => absurd h (by decide)⟩
  · rintro j σ H' hj ⟨xs, y, z, rfl, g, e, hx, hl, hnd, hne⟩
    refine ⟨_, rfl, d, rfl, g.dr, fun nm H2 g2 hnm => ?_⟩
    have e2 := g2.fr n _ nd e
    refine ⟨_, rfl, _, rfl, _, _, rfl, .inl (sqd e2), rfl, flat_strs' xs, _, rfl, ?_⟩
    rw [inV_str]
    refine ite2 (fun c => ?_) (fun c => ?_)
    · have hm : nm ∉ xs := fun h => by
        have c' : (!decide (nm ∈ xs)) = true := c
        rw [decide_eq_true h] at c'
        cases c'
      refine ⟨_, rfl, .inl ⟨rfl, _, sqd e2⟩, _, rfl, n, _, _, rfl, rfl, e2, ?_, ?_⟩
      · rw [List.length_map]
        exact small1000 (by omega)
      · refine ⟨xs ++ [nm], _, _, rfl, ?_, ?_, ?_, ?_, ?_, fun _ => by simp⟩
        · have g3 := g.trans g2
          refine ⟨fun b o hb eb => ?_, ?_⟩
          · rw [upd_ne (ne_of_none eb hn)]
            exact g3.fr b o hb eb
          · obtain ⟨ns, hd⟩ := g3.dr
            exact ⟨ns, by rw [upd_ne nd.symm]; exact hd⟩
        · rw [upd_same, List.map_append]
          rfl
        · intro x h
          rcases List.mem_append.mp h with h | h
          · exact hx x h
          · rw [List.mem_singleton.mp h]
            exact hnm
        · rw [List.length_append, List.length_singleton]
          omega
        · exact List.nodup_append.mpr ⟨hnd, List.nodup_cons.mpr ⟨List.not_mem_nil, List.nodup_nil⟩, fun a ha b hb => by
            rw [List.mem_singleton.mp hb]
            rintro rfl
            exact hm ha⟩
    · refine ⟨xs, _, _, rfl, g.trans g2, e2, hx, by omega, hnd, fun _ h => ?_⟩
      rw [h] at c
      exact c rfl
  · rintro σ H' ⟨xs, y, z, rfl, g, e, hx, hl, hnd, hne⟩
    exact ⟨_, rfl, q n xs H' g hn nd e hx (by omega) hnd fun h => hne (by omega)⟩
/-! ### _law_number -/
def spNumber (B : Nat) : Sp := fun vs H Q _ => ∃ (d : Addr) (c : Int), vs = [.ref d, .int c] ∧ Dr H d ∧ c.natAbs ≤ B ∧ ∀ n H', Go d H H' → n.natAbs ≤ B → Q (.int n) H'
theorem ok_law_number {B : Nat} (hB : 100 ≤ B) (T : Txt K mg) : FnOk P w K mg base CX0 2 T.a_law_number T.d_law_number P_law_number (spNumber B) := by
  have G_law_take := ok_law_take (P := P) (w := w) (base := base) T
  refine T.F_law_number.ok sc_law_number (fun vs H Q E h => ?_) (fun cdv A outer s H vs Q E hr h => ?_)
  · obtain ⟨d, c, rfl, _⟩ := h
    rfl
  obtain ⟨d, c, rfl, hD, hc, q⟩ := h
  refine ⟨_, (pss_one (ps_ret (pe_ix ix_list (pe_lst (pa_cons pe_int (pa_cons pe_int (pa_cons (pe_un un_neg pe_int) (pa_cons (pe_op op_sub (pe_call G_law_take (hr.mono (by omega)) (by rfl) T.m_law_take T.F_law_take.kp T.b_law_take .nil pass0 (pa_cons (pv 0) (pa_cons pe_int pa_nil))) pe_int) (pa_cons (pe_op op_sub (pe_call G_law_take (hr.mono (by omega)) (by rfl) T.m_law_take T.F_law_take.kp T.b_law_take .nil pass0 (pa_cons (pv 0) (pa_cons pe_int pa_nil))) pe_int) (pa_cons (pv 1) pa_nil))))))) (pe_call G_law_take (hr.mono (by omega)) (by rfl) T.m_law_take T.F_law_take.kp T.b_law_take .nil pass0 (pa_cons (pv 0) (pa_cons pe_int pa_nil))) (fun _ _ => rfl)))), ?_⟩
  refine ⟨_, rfl, _, rfl, d, _, rfl, hD, (by decide), fun r1 H1 g1 a0 a1 => ?_⟩
  refine ⟨_, _, rfl, rfl, _, rfl, d, _, rfl, g1.dr, (by decide), fun r2 H2 g2 b0 b1 => ?_⟩
  refine ⟨_, _, rfl, rfl, _, rfl, (Nat.le_of_ble_eq_true rfl), fun p hp => ?_⟩
  have g3 := fun o => Go.new (o := o) g2.dr hp
  refine ⟨_, rfl, d, _, rfl, (g3 _).dr, (by decide), fun u H4 g4 u0 u1 => ?_⟩
  have np : p ≠ d := by
    rintro rfl
    obtain ⟨ns, hd⟩ := g2.dr
    rw [hp] at hd; cases hd
  have e4 := g4.fr p _ np upd_same
  obtain ⟨v, hv, hm⟩ := atI_map (f := V.int) (xs := [0, 1, -1, r1 - 5, r2 - 100, c]) u0 u1
  refine ⟨_, _, _, _, rfl, rfl, sqd e4, hv, q v H4 (g1.trans (g2.trans ((g3 _).trans g4))) ?_⟩
  simp only [List.mem_cons, List.not_mem_nil, or_false] at hm
  omega
/-! ### _law_leaf -/
def spLeaf (K : PySem.W.Frag) (B : Nat) : Sp := fun vs H Q _ => ∃ (d n : Addr) (xs : List Str) (c : Int), vs = [.ref d, .ref n, .int c] ∧ Dr H d ∧ Keep K d H n (xs.map V.str) ∧ c.natAbs ≤ B ∧
  ∀ v i H', Go d H H' → ItemIn H' i v → Okx xs B false i → i.dep = 1 → i.sz = 1 → Q v H'
theorem ok_law_leaf {B : Nat} (hB : 100 ≤ B) (T : Txt K mg) : FnOk P w K mg base CX0 3 T.a_law_leaf T.d_law_leaf P_law_leaf (spLeaf K B) := by
  have G_law_take := ok_law_take (P := P) (w := w) (base := base) T
  have G_law_number := ok_law_number (P := P) (w := w) (base := base) hB T
  refine T.F_law_leaf.ok sc_law_leaf (fun vs H Q E h => ?_) (fun cdv A outer s H vs Q E hr h => ?_)
  · obtain ⟨d, n, xs, c, rfl, _⟩ := h
    rfl
  obtain ⟨d, n, xs, c, rfl, hD, hk, hc, q⟩ := h
  refine ⟨_, (pss_cons (ps_if (PW.pt (pw_or (pt_cmpR op_eq (pe_callB call_len_seq (by rfl) T.z_len PySem.boot_len (pa_cons (pv 1) pa_nil)) pe_int (nomark _)) (pw_or1 (pt_cmpR op_lt (pe_call G_law_take (hr.mono (by omega)) (by rfl) T.m_law_take T.F_law_take.kp T.b_law_take .nil pass0 (pa_cons (pv 0) (pa_cons pe_int pa_nil))) pe_int (nomark _)))))
    (pss_one (ps_ret (pe_tup (pa_cons pe_str (pa_cons (pe_call G_law_number (hr.mono (by omega)) (by rfl) T.m_law_number T.F_law_number.kp T.b_law_number .nil pass0 (pa_cons (pv 0) (pa_cons (pv 2) pa_nil))) pa_nil)))))
    pss_nil)
    (pss_one (ps_ret (pe_tup (pa_cons pe_str (pa_cons (pe_ix ix_list (pv 1) (pe_call G_law_take (hr.mono (by omega)) (by rfl) T.m_law_take T.F_law_take.kp T.b_law_take .nil pass0 (pa_cons (pv 0) (pa_cons (pe_callB call_len_seq (by rfl) T.z_len PySem.boot_len (pa_cons (pv 1) pa_nil)) pa_nil))) (fun _ _ => rfl)) pa_nil)))))), ?_⟩
  have one : ∀ H1, Go d H H1 → tRet (tTup (tCons (tC (.str "number")) (tCons (tCall (spNumber B) [] E0 (tCons (tVar 0) (tCons (tVar 2) tNil))) tNil))) { nx := fun _ H' => Q .non H', rt := Q } [some (.ref d), some (.ref n), some (.int c)] H1 := fun H1 g1 => by
    refine ⟨_, rfl, _, rfl, d, c, rfl, g1.dr, hc, fun m H2 g2 hm => ⟨(Nat.le_of_ble_eq_true rfl), fun p hp => ?_⟩⟩
    exact q _ _ _ (g1.trans (g2.trans (.new g2.dr hp))) (.num upd_same) (.num hm) (by rw [It.dep]) (by rw [It.sz])
  refine ⟨_, rfl, _, _, rfl, .inl hk.now, rfl, _, rfl, ?_⟩
  refine ite2 (fun c0 => ?_) (fun c0 => ?_)
  · exact one H (Go.refl hD)
  · have hl := int_ne c0
    rw [List.length_map] at hl
    refine ⟨_, rfl, d, _, rfl, hD, (by decide), fun r H1 g1 r0 r1 => ?_⟩
    refine ⟨_, _, rfl, rfl, _, rfl, ?_⟩
    refine ite2 (fun c1 => ?_) (fun c1 => ?_)
    · exact one H1 g1
    · refine ⟨_, rfl, _, rfl, _, rfl, _, _, rfl, .inl (hk.go g1).now, d, _, rfl, g1.dr, by rw [List.length_map]; omega, fun u H2 g2 u0 u1 => ?_⟩
      rw [List.length_map] at u1
      obtain ⟨v, hv, hm⟩ := atI_map (f := V.str) u0 u1
      refine ⟨_, _, _, _, rfl, rfl, ((hk.go g1).go g2).now, hv, (Nat.le_of_ble_eq_true rfl), fun p hp => ?_⟩
      exact q _ _ _ (g1.trans (g2.trans (.new g2.dr hp))) (.name upd_same) (.name hm) (by rw [It.dep]) (by rw [It.sz])
end
end NL

namespace NL
open PySem PySem.Spec PyProof.Rows L2
theorem yes_if {σ : L2.St} {H : Hp} {a n : Hp → Prop} (h : a H) : tYes σ H (fun b H3 => if b = true then a H3 else n H3) := by
  show (if true = true then a H else n H)
  rw [if_pos rfl]
  exact h
/-- one reading for two ways -/
theorem cutP {B C : Prop} (f : B → C) (b : B) : C := f b
/-! ### _law_expression, _law_test: both by one induction over the depth -/
def eT : Nat → Nat × Nat
  | 0 => (1, 3)
  | n + 1 => (1 + 2 * (eT n).1 + (eT n).2, 1 + 2 * (1 + 2 * (eT n).1 + (eT n).2) + 5 * (eT n).2)
theorem eT_pos (n : Nat) : 1 ≤ (eT n).1 := by
  cases n with
  | zero => decide
  | succ n => show 1 ≤ 1 + 2 * (eT n).1 + (eT n).2; omega
theorem eT_bin (n : Nat) : 1 + 2 * (eT n).1 ≤ (eT n).2 := by
  cases n with
  | zero => decide
  | succ n => show 1 + 2 * (1 + 2 * (eT n).1 + (eT n).2) ≤ 1 + 2 * (1 + 2 * (eT n).1 + (eT n).2) + 5 * (eT n).2; omega
theorem new_ne {d p : Addr} {H : Hp} (h : Dr H d) (hp : H p = none) : p ≠ d := by
  rintro rfl
  obtain ⟨ns, e⟩ := h
  rw [hp] at e; cases e
/-- a new list that was made while d is drawn, read behind more draws -/
theorem Go.at {d p : Addr} {H H' : Hp} {o : HO} (h : Dr H d) (hp : H p = none) (g : Go d (upd H p o) H') : H' p = some o := g.fr p o (new_ne h hp) upd_same
def spE (K : PySem.W.Frag) (B : Nat) : Nat → Sp
  | 0 => fun _ _ _ _ => False
  | n + 1 => fun vs H Q _ => ∃ (d nm : Addr) (xs : List Str) (c δ : Int), vs = [.ref d, .ref nm, .int c, .int δ] ∧ Dr H d ∧ Keep K d H nm (xs.map V.str) ∧ c.natAbs ≤ B ∧ δ ≤ n ∧
    ∀ v i H', Go d H H' → ItemIn H' i v → Okx xs B false i → i.dep ≤ 2 * n + 1 → i.sz ≤ (eT n).1 → Q v H'
def spT (K : PySem.W.Frag) (B : Nat) : Nat → Sp
  | 0 => fun _ _ _ _ => False
  | n + 1 => fun vs H Q _ => ∃ (d nm : Addr) (xs : List Str) (c δ : Int), vs = [.ref d, .ref nm, .int c, .int δ] ∧ Dr H d ∧ Keep K d H nm (xs.map V.str) ∧ c.natAbs ≤ B ∧ δ ≤ n ∧
    ∀ v i H', Go d H H' → ItemIn H' i v → Okx xs B true i → i.dep ≤ 2 * n + 2 → i.sz ≤ (eT n).2 → Q v H'
theorem szL_le {m : Nat} : ∀ (l : List It), (∀ i ∈ l, i.sz ≤ m) → szL l ≤ l.length * m
  | [], _ => by rw [szL]; omega
  | a :: r, h => by
    rw [szL, List.length_cons, Nat.succ_mul]
    have h1 := h a List.mem_cons_self
    have h2 := szL_le r fun i hi => h i (List.mem_cons_of_mem _ hi)
    omega
theorem depL_le {m : Nat} : ∀ (l : List It), (∀ i ∈ l, i.dep ≤ m) → depL l ≤ m
  | [], _ => by rw [depL]; omega
  | a :: r, h => by
    rw [depL]
    have h1 := h a List.mem_cons_self
    have h2 := depL_le r fun i hi => h i (List.mem_cons_of_mem _ hi)
    omega
section
variable {P : Program} {w : World} {K : PySem.W.Frag} {mg : Str → Option Value} {base : Heap}
theorem ok_E {B n : Nat} (hB : 100 ≤ B) (T : Txt K mg) (G_law_expression : FnOk P w K mg base CX0 (3 + 2 * n) T.a_law_expression T.d_law_expression P_law_expression (spE K B n))
    (G_law_test : FnOk P w K mg base CX0 (4 + 2 * n) T.a_law_test T.d_law_test P_law_test (spT K B n)) :
    FnOk P w K mg base CX0 (4 + 2 * n + 1) T.a_law_expression T.d_law_expression P_law_expression (spE K B (n + 1)) := by
  have G_law_take := ok_law_take (P := P) (w := w) (base := base) T
  have G_law_leaf := ok_law_leaf (P := P) (w := w) (base := base) hB T
  refine T.F_law_expression.ok sc_law_expression (fun vs H Q E h => ?_) (fun cdv A outer s H vs Q E hr h => ?_)
  · obtain ⟨d, nm, xs, c, δ, rfl, _⟩ := h
    rfl
  obtain ⟨d, nm, xs, c, δ, rfl, hD, hk, hc, hδ, q⟩ := h
  refine ⟨_, (pss_cons (ps_set (i := 4) sc_law_expression.nd rfl (Or.inl rfl) (pe_call G_law_take (hr.mono (by omega)) (by rfl) T.m_law_take T.F_law_take.kp T.b_law_take .nil pass0 (pa_cons (pv 0) (pa_cons pe_int pa_nil))))
    (pss_cons (ps_if (PW.pt (pw_or (pt_cmpR op_lt (pv 3) pe_int (nomark _)) (pw_or1 (pt_cmpR op_lt (pv 4) pe_int (nomark _)))))
    (pss_one (ps_ret (pe_call G_law_leaf (hr.mono (by omega)) (by rfl) T.m_law_leaf T.F_law_leaf.kp T.b_law_leaf .nil pass0 (pa_cons (pv 0) (pa_cons (pv 1) (pa_cons (pv 2) pa_nil))))))
    pss_nil)
    (pss_cons (ps_set (i := 5) sc_law_expression.nd rfl (Or.inl rfl) (pe_call G_law_expression (hr.mono (by omega)) (by rfl) T.m_law_expression T.F_law_expression.kp T.b_law_expression .nil pass0 (pa_cons (pv 0) (pa_cons (pv 1) (pa_cons (pv 2) (pa_cons (pe_op op_sub (pv 3) pe_int) pa_nil))))))
    (pss_cons (ps_if (pt_cmpR op_eq (pv 4) pe_int (nomark _))
    (pss_one (ps_ret (pe_tup (pa_cons pe_str (pa_cons (pv 5) pa_nil)))))
    pss_nil)
    (pss_cons (ps_if (pt_cmpR op_lt (pv 4) pe_int (nomark _))
    (pss_one (ps_ret (pe_tup (pa_cons (pe_ix ix_list (pe_lst (pa_cons pe_str (pa_cons pe_str pa_nil))) (pe_op op_sub (pv 4) pe_int) (fun _ _ => rfl)) (pa_cons (pv 5) (pa_cons (pe_op op_add pe_int (pe_ix ix_list (pe_lst (pa_cons pe_int (pa_cons (pe_call G_law_take (hr.mono (by omega)) (by rfl) T.m_law_take T.F_law_take.kp T.b_law_take .nil pass0 (pa_cons (pv 0) (pa_cons pe_int pa_nil))) (pa_cons (pe_callB (call_abs) (by rfl) T.z_abs (by decide +kernel) (pa_cons (pv 2) pa_nil)) pa_nil)))) (pe_call G_law_take (hr.mono (by omega)) (by rfl) T.m_law_take T.F_law_take.kp T.b_law_take .nil pass0 (pa_cons (pv 0) (pa_cons pe_int pa_nil))) (fun _ _ => rfl))) pa_nil))))))
    pss_nil)
    (pss_cons (ps_set (i := 6) sc_law_expression.nd rfl (Or.inl rfl) (pe_call G_law_expression (hr.mono (by omega)) (by rfl) T.m_law_expression T.F_law_expression.kp T.b_law_expression .nil pass0 (pa_cons (pv 0) (pa_cons (pv 1) (pa_cons (pv 2) (pa_cons (pe_op op_sub (pv 3) pe_int) pa_nil))))))
    (pss_cons (ps_if (pt_cmpR op_eq (pv 4) pe_int (nomark _))
    (pss_one (ps_ret (pe_tup (pa_cons pe_str (pa_cons (pe_call G_law_test (hr.mono (by omega)) (by rfl) T.m_law_test T.F_law_test.kp T.b_law_test .nil pass0 (pa_cons (pv 0) (pa_cons (pv 1) (pa_cons (pv 2) (pa_cons (pe_op op_sub (pv 3) pe_int) pa_nil))))) (pa_cons (pv 5) (pa_cons (pv 6) pa_nil)))))))
    pss_nil)
    (pss_one (ps_ret (pe_tup (pa_cons (pe_ix ix_list (pe_lst (pa_cons pe_str (pa_cons pe_str (pa_cons pe_str (pa_cons pe_str (pa_cons pe_str pa_nil)))))) (pe_op op_sub (pv 4) pe_int) (fun _ _ => rfl)) (pa_cons (pv 5) (pa_cons (pv 6) pa_nil))))))))))))), ?_⟩
  refine ⟨_, rfl, d, _, rfl, hD, (by decide), fun kd H1 g1 k0 k1 => ?_⟩
  have leaf : tRet (tCall (spLeaf K B) [] E0 (tCons (tVar 0) (tCons (tVar 1) (tCons (tVar 2) tNil)))) { nx := fun _ H' => Q .non H', rt := Q } [some (.ref d), some (.ref nm), some (.int c), some (.int δ), some (.int kd), none, none] H1 := by
    refine ⟨_, rfl, _, rfl, _, rfl, d, nm, xs, c, rfl, g1.dr, hk.go g1, hc, fun v i H2 g2 hi ho hd hs => ?_⟩
    exact q v i H2 (g1.trans g2) hi ho (by omega) (by have := eT_pos n; omega)
  refine ⟨_, rfl, _, _, rfl, rfl, _, rfl, ?_⟩
  refine ite2 (fun c1 => iteT leaf) (fun c1 => ?_)
  refine ⟨_, rfl, _, _, rfl, rfl, _, rfl, ?_⟩
  refine ite2 (fun c2 => leaf) (fun c2 => ?_)
  have d1 : ¬ δ < 1 := fun h => c1 (decide_eq_true h)
  have k3 : ¬ kd < 3 := fun h => c2 (decide_eq_true h)
  cases n with
  | zero => exact absurd hδ (by omega)
  | succ n =>
  have eE : (eT (n + 1)).1 = 1 + 2 * (eT n).1 + (eT n).2 := rfl
  -- one
  refine ⟨_, rfl, _, rfl, _, rfl, _, rfl, _, _, rfl, rfl, d, nm, xs, c, δ - 1, rfl, g1.dr, hk.go g1, hc, by omega, fun v1 i1 H2 g2 hi1 ho1 hd1 hs1 => ?_⟩
  refine ⟨_, rfl, rfl, _, rfl, ?_⟩
  refine ite2 (fun c3 => ?_) (fun c3 => ?_)
  · refine ⟨_, rfl, (Nat.le_of_ble_eq_true rfl), fun p hp => ?_⟩
    have gn := fun o => Go.new (o := o) g2.dr hp
    exact q _ _ _ (g1.trans (g2.trans (gn _))) (.un upd_same (hi1.go (gn _) g2.dr)) (.abs ho1) (by rw [It.dep]; omega) (by rw [It.sz]; omega)
  have k4 : kd ≠ 3 := int_ne c3
  refine ⟨_, rfl, _, _, rfl, rfl, _, rfl, ?_⟩
  refine ite2 (fun c4 => ?_) (fun c4 => ?_)
  · have k5 : kd < 6 := of_decide_eq_true c4
    refine ⟨(Nat.le_of_ble_eq_true rfl), fun p hp => ?_⟩
    have gp := fun o => Go.new (o := o) g2.dr hp
    obtain ⟨wd, hw, hm⟩ := atI_map (f := V.str) (xs := ["div", "mod"]) (i := kd - 4) (by omega) (by show kd - 4 < 2; omega)
    refine ⟨_, rfl, _, _, rfl, rfl, _, _, _, _, rfl, rfl, sqd upd_same, hw, ?_⟩
    refine ⟨_, rfl, _, rfl, d, _, rfl, (gp _).dr, (by decide), fun r H3 g3 r0 r1 => ?_⟩
    refine ⟨_, rfl, _, rfl, (Nat.le_of_ble_eq_true rfl), fun p2 hp2 => ?_⟩
    have gp2 := fun o => Go.new (o := o) g3.dr hp2
    refine ⟨_, rfl, d, _, rfl, (gp2 _).dr, (by decide), fun u H4 g4 u0 u1 => ?_⟩
    obtain ⟨n1, hn1, hm1⟩ := atI_map (f := V.int) (xs := [0, r, if c < 0 then -c else c]) u0 u1
    refine ⟨_, _, _, _, rfl, rfl, sqd (g4.at g3.dr hp2), hn1, _, _, rfl, rfl, (Nat.le_of_ble_eq_true rfl), fun p3 hp3 => ?_⟩
    have gp3 := fun o => Go.new (o := o) g4.dr hp3
    have gg := fun o => (gp _).trans (g3.trans ((gp2 _).trans (g4.trans (gp3 o))))
    have hb : 0 ≤ n1 ∧ n1.natAbs ≤ B := by
      simp only [List.mem_cons, List.not_mem_nil, or_false] at hm1
      rcases hm1 with h | h | h
      · omega
      · omega
      · split at h <;> omega
    exact q _ _ _ (g1.trans (g2.trans (gg _))) (.dm upd_same (hi1.go (gg _) g2.dr)) (.dm hm ho1 (lo_le (by omega)) (by omega)) (by rw [It.dep]; omega) (by rw [It.sz]; omega)
  have k6 : ¬ kd < 6 := fun h => c4 (decide_eq_true h)
  -- two
  refine ⟨_, rfl, _, rfl, _, rfl, _, rfl, _, _, rfl, rfl, d, nm, xs, c, δ - 1, rfl, g2.dr, (hk.go g1).go g2, hc, by omega, fun v2 i2 H3 g3 hi2 ho2 hd2 hs2 => ?_⟩
  refine ⟨_, rfl, rfl, _, rfl, ?_⟩
  refine ite2 (fun c5 => ?_) (fun c5 => ?_)
  · refine ⟨_, rfl, _, rfl, _, rfl, _, rfl, _, _, rfl, rfl, d, nm, xs, c, δ - 1, rfl, g3.dr, ((hk.go g1).go g2).go g3, hc, by omega, fun v3 i3 H4 g4 hi3 ho3 hd3 hs3 => ?_⟩
    refine ⟨_, rfl, _, rfl, (Nat.le_of_ble_eq_true rfl), fun p hp => ?_⟩
    have gp := fun o => Go.new (o := o) g4.dr hp
    exact q _ _ _ (g1.trans (g2.trans (g3.trans (g4.trans (gp _))))) (.tri upd_same (hi3.go (gp _) g4.dr) (hi1.go (g3.trans (g4.trans (gp _))) g2.dr) (hi2.go (g4.trans (gp _)) g3.dr)) (.tri ho3 ho1 ho2) (by rw [It.dep]; omega) (by rw [It.sz]; omega)
  have k7 : kd ≠ 6 := int_ne c5
  refine ⟨(Nat.le_of_ble_eq_true rfl), fun p hp => ?_⟩
  have gp := fun o => Go.new (o := o) g3.dr hp
  obtain ⟨wd, hw, hm⟩ := atI_map (f := V.str) (xs := ["add", "sub", "mul", "min", "max"]) (i := kd - 7) (by omega) (by show kd - 7 < 5; omega)
  refine ⟨_, rfl, _, _, rfl, rfl, _, _, _, _, rfl, rfl, sqd upd_same, hw, _, rfl, _, rfl, (Nat.le_of_ble_eq_true rfl), fun p2 hp2 => ?_⟩
  have gp2 := fun o => Go.new (o := o) (gp _).dr hp2
  have gg := fun o => (gp _).trans (gp2 o)
  exact q _ _ _ (g1.trans (g2.trans (g3.trans (gg _)))) (.bin upd_same (hi1.go (g3.trans (gg _)) g2.dr) (hi2.go (gg _) g3.dr)) (.bin hm ho1 ho2) (by rw [It.dep]; omega) (by rw [It.sz]; omega)
theorem ok_T {B n : Nat} (hB : 100 ≤ B) (T : Txt K mg) (G_law_expression : FnOk P w K mg base CX0 (4 + 2 * n + 1) T.a_law_expression T.d_law_expression P_law_expression (spE K B (n + 1)))
    (G_law_test : FnOk P w K mg base CX0 (4 + 2 * n) T.a_law_test T.d_law_test P_law_test (spT K B n)) :
    FnOk P w K mg base CX0 (5 + 2 * n + 1) T.a_law_test T.d_law_test P_law_test (spT K B (n + 1)) := by
  have G_law_take := ok_law_take (P := P) (w := w) (base := base) T
  refine T.F_law_test.ok sc_law_test (fun vs H Q E h => ?_) (fun cdv A outer s H vs Q E hr h => ?_)
  · obtain ⟨d, nm, xs, c, δ, rfl, _⟩ := h
    rfl
  obtain ⟨d, nm, xs, c, δ, rfl, hD, hk, hc, hδ, q⟩ := h
  have eB := eT_bin n
  refine ⟨_, (pss_cons (ps_set (i := 4) sc_law_test.nd rfl (Or.inl rfl) (pe_call G_law_take (hr.mono (by omega)) (by rfl) T.m_law_take T.F_law_take.kp T.b_law_take .nil pass0 (pa_cons (pv 0) (pa_cons pe_int pa_nil))))
    (pss_cons (ps_if (pt_cmpR op_lt (pv 4) pe_int (nomark _))
    (pss_one (ps_ret (pe_ix ix_list (pe_lst (pa_cons (pe_tup (pa_cons pe_str pa_nil)) (pa_cons (pe_tup (pa_cons pe_str pa_nil)) pa_nil))) (pv 4) (fun _ _ => rfl))))
    pss_nil)
    (pss_cons (ps_if (PW.pt (pw_or (pt_cmpR op_lt (pv 3) pe_int (nomark _)) (pw_or1 (pt_cmpR op_lt (pv 4) pe_int (nomark _)))))
    (pss_cons (ps_set (i := 5) sc_law_test.nd rfl (Or.inl rfl) (pe_call G_law_expression (hr.mono (by omega)) (by rfl) T.m_law_expression T.F_law_expression.kp T.b_law_expression .nil pass0 (pa_cons (pv 0) (pa_cons (pv 1) (pa_cons (pv 2) (pa_cons (pe_op op_sub (pv 3) pe_int) pa_nil))))))
    (pss_one (ps_ret (pe_tup (pa_cons (pe_ix ix_list (pe_lst (pa_cons pe_str (pa_cons pe_str pa_nil))) (pe_op op_mod (pv 4) pe_int) (fun _ _ => rfl)) (pa_cons (pv 5) (pa_cons (pe_call G_law_expression (hr.mono (by omega)) (by rfl) T.m_law_expression T.F_law_expression.kp T.b_law_expression .nil pass0 (pa_cons (pv 0) (pa_cons (pv 1) (pa_cons (pv 2) (pa_cons (pe_op op_sub (pv 3) pe_int) pa_nil))))) pa_nil)))))))
    pss_nil)
    (pss_cons (ps_if (pt_cmpR op_eq (pv 4) pe_int (nomark _))
    (pss_one (ps_ret (pe_tup (pa_cons pe_str (pa_cons (pe_call G_law_test (hr.mono (by omega)) (by rfl) T.m_law_test T.F_law_test.kp T.b_law_test .nil pass0 (pa_cons (pv 0) (pa_cons (pv 1) (pa_cons (pv 2) (pa_cons (pe_op op_sub (pv 3) pe_int) pa_nil))))) pa_nil)))))
    pss_nil)
    (pss_cons (ps_set (i := 6) sc_law_test.nd rfl (Or.inl rfl) (pe_ix ix_list (pe_lst (pa_cons pe_int (pa_cons pe_int (pa_cons pe_int (pa_cons pe_int (pa_cons pe_int (pa_cons pe_int pa_nil))))))) (pe_call G_law_take (hr.mono (by omega)) (by rfl) T.m_law_take T.F_law_take.kp T.b_law_take .nil pass0 (pa_cons (pv 0) (pa_cons pe_int pa_nil))) (fun _ _ => rfl)))
    (pss_one (ps_ret (pe_tup (pa_cons (pe_ix ix_list (pe_lst (pa_cons pe_str (pa_cons pe_str (pa_cons pe_str pa_nil)))) (pe_op op_sub (pv 4) pe_int) (fun _ _ => rfl)) (pa_cons (pe_callTy call_tuple_of (by rfl) T.z_tuple (by decide +kernel) (pa_cons (pe_lc (own := [("k", 7)]) (g := (gName 7)) (tt := tYes) rfl sc_law_test.nd (pi_range1 (by rfl) T.z_range (pa_cons (pv 6) pa_nil)) (blkOk_by (N := N_law_test) (sc := defScope s_law_test) (by decide +kernel)) (fun _ _ _ _ _ => (pg_name (i := 7) sc_law_test.nd rfl (Or.inl rfl))) (fun _ _ _ _ _ => pts_nil) (fun _ _ _ _ _ => (pe_call G_law_test (hr.mono (by omega)) (by rfl) T.m_law_test T.F_law_test.kp T.b_law_test .nil pass0 (pa_cons (pv 0) (pa_cons (pv 1) (pa_cons (pv 2) (pa_cons (pe_op op_sub (pv 3) pe_int) pa_nil))))))) pa_nil)) pa_nil)))))))))), ?_⟩
  refine ⟨_, rfl, d, _, rfl, hD, (by decide), fun kd H1 g1 k0 k1 => ?_⟩
  refine ⟨_, rfl, _, _, rfl, rfl, _, rfl, ?_⟩
  refine ite2 (fun c1 => ?_) (fun c1 => ?_)
  · have k2 : kd < 2 := of_decide_eq_true c1
    refine ⟨(Nat.le_of_ble_eq_true rfl), fun p hp => ⟨(Nat.le_of_ble_eq_true rfl), fun p2 hp2 => ⟨(Nat.le_of_ble_eq_true rfl), fun p3 hp3 => ?_⟩⟩⟩
    have n12 : p ≠ p2 := ne_of_none upd_same hp2
    have n13 : p ≠ p3 := ne_of_none (by rw [upd_ne n12]; exact upd_same) hp3
    have n23 : p2 ≠ p3 := ne_of_none upd_same hp3
    obtain ⟨v, hv, hm⟩ := atI_mem (xs := [V.ref p, V.ref p2]) (i := kd) k0 (by show kd < 2; exact k2)
    have g2 := fun o => Go.new (o := o) g1.dr hp
    have g3 := fun o => Go.new (o := o) (g2 _).dr hp2
    have g4 := fun o => Go.new (o := o) (g3 _).dr hp3
    refine ⟨_, rfl, _, _, _, _, rfl, rfl, sqd upd_same, hv, ?_⟩
    simp only [List.mem_cons, List.not_mem_nil, or_false] at hm
    have gg := fun o => g1.trans ((g2 _).trans ((g3 _).trans (g4 o)))
    rcases hm with rfl | rfl
    · exact q _ (.lit true) _ (gg _) (.lit (by rw [upd_ne n13, upd_ne n12]; exact upd_same)) .lit (by rw [It.dep]; omega) (by rw [It.sz]; omega)
    · exact q _ (.lit false) _ (gg _) (.lit (by rw [upd_ne n23]; exact upd_same)) .lit (by rw [It.dep]; omega) (by rw [It.sz]; omega)
  have k2 : ¬ kd < 2 := fun h => c1 (decide_eq_true h)
  -- less, equal
  refine ⟨_, rfl, _, _, rfl, rfl, _, rfl, ?_⟩
  refine' cutP ?f ?b
  case f =>
    intro body
    refine ite2 (fun c2 => iteT body) (fun c2 => ?_)
    refine ⟨_, rfl, _, _, rfl, rfl, _, rfl, ?_⟩
    refine ite2 (fun c3 => body) (fun c3 => ?_)
    have d1 : ¬ δ < 1 := fun h => c2 (decide_eq_true h)
    have k6 : ¬ kd < 6 := fun h => c3 (decide_eq_true h)
    cases n with
    | zero => exact absurd hδ (by omega)
    | succ n =>
    have eE : (eT (n + 1)).2 = 1 + 2 * (1 + 2 * (eT n).1 + (eT n).2) + 5 * (eT n).2 := rfl
    -- not
    refine ⟨_, rfl, rfl, _, rfl, ?_⟩
    refine ite2 (fun c4 => ?_) (fun c4 => ?_)
    · refine ⟨_, rfl, _, rfl, _, rfl, _, rfl, _, _, rfl, rfl, d, nm, xs, c, δ - 1, rfl, g1.dr, hk.go g1, hc, by omega, fun v1 i1 H2 g2 hi1 ho1 hd1 hs1 => ?_⟩
      refine ⟨(Nat.le_of_ble_eq_true rfl), fun p hp => ?_⟩
      have gp := fun o => Go.new (o := o) g2.dr hp
      exact q _ _ _ (g1.trans (g2.trans (gp _))) (.un upd_same (hi1.go (gp _) g2.dr)) (.not ho1) (by rw [It.dep]; omega) (by rw [It.sz]; omega)
    have k7 : kd ≠ 6 := int_ne c4
    -- many
    refine ⟨(Nat.le_of_ble_eq_true rfl), fun p hp => ?_⟩
    have gp := fun o => Go.new (o := o) g1.dr hp
    refine ⟨_, rfl, d, _, rfl, (gp _).dr, (by decide), fun u H2 g2 u0 u1 => ?_⟩
    obtain ⟨m, hmv, hmm⟩ := atI_map (f := V.int) (xs := [0, 1, 2, 3, 2, 5]) u0 u1
    have hm5 : 0 ≤ m ∧ m ≤ 5 := by
      simp only [List.mem_cons, List.not_mem_nil, or_false] at hmm
      omega
    have g12 := g1.trans ((gp _).trans g2)
    refine ⟨_, _, _, _, rfl, rfl, sqd (g2.at g1.dr hp), hmv, (Nat.le_of_ble_eq_true rfl), fun p2 hp2 => ?_⟩
    have gp2 := fun o => Go.new (o := o) g2.dr hp2
    obtain ⟨wd, hw, hmw⟩ := atI_map (f := V.str) (xs := ["all", "any", "all"]) (i := kd - 7) (by omega) (by show kd - 7 < 3; omega)
    refine ⟨_, rfl, _, _, rfl, rfl, _, _, _, _, rfl, rfl, sqd upd_same, hw, _, rfl, m, rfl, by omega, by omega, fun D hD => ?_⟩
    have gD := fun o => Go.new (o := o) (gp2 _).dr hD
    refine lc_range (lo := 0) (n := m.toNat) (fun (j : Nat) (H' : Hp) => ∃ (l : List It) (vs : List V), vs.length = j ∧ l.length = j ∧ Go d (upd H2 p2 (.lst [.str "all", .str "any", .str "all"])) H' ∧ H' D = some (.lst vs) ∧ (∀ (k : Nat) i x, l[k]? = some i → vs[k]? = some x → ItemIn H' i x) ∧ (∀ i ∈ l, Okx xs B true i ∧ i.dep ≤ 2 * n + 2 ∧ i.sz ≤ (eT n).2)) ?_ ?_ ?_
    · exact ⟨[], [], rfl, rfl, gD _, upd_same, fun k i x h => by simp at h, fun i h => by cases h⟩
    · rintro j H' hj ⟨l, vs, hl1, hl2, g, e, hin, hok⟩
      refine ⟨rfl, ?_⟩
      refine yes_if ?_
      refine ⟨_, rfl, _, rfl, _, rfl, _, rfl, _, _, rfl, rfl, d, nm, xs, c, δ - 2, rfl, g.dr, (hk.go g12).go ((gp2 _).trans g), hc, by omega, fun v1 i1 H4 g4 hi1 ho1 hd1 hs1 => ?_⟩
      have nD : D ≠ d := new_ne (gp2 _).dr hD
      have e4 := g4.fr D _ nD e
      have t4 : Tp H4 (upd H4 D (.lst (vs ++ [v1]))) := fun a ys ea => by
        rw [upd_ne]
        · exact ea
        · rintro rfl
          rw [e4] at ea; cases ea
      refine ⟨vs, e4, small1000 (by omega), l ++ [i1], vs ++ [v1], ?_, ?_, ?_, upd_same, ?_, ?_⟩
      · rw [List.length_append, hl1] <;> rfl
      · rw [List.length_append, hl2] <;> rfl
      · have g5 := g.trans g4
        refine ⟨fun b o hb eb => ?_, ?_⟩
        · rw [upd_ne (ne_of_none eb hD)]
          exact g5.fr b o hb eb
        · obtain ⟨ns, h⟩ := g5.dr
          exact ⟨ns, by rw [upd_ne nD.symm]; exact h⟩
      · intro k i x h1 h2
        by_cases hk2 : k < j
        · rw [List.getElem?_append_left (by omega)] at h1 h2
          exact ((hin k i x h1 h2).go g4 g.dr).mono t4
        · have hk3 : k = j := by
            have := (List.getElem?_eq_some_iff.mp h1).1
            rw [List.length_append, hl2] at this
            have : [i1].length = 1 := rfl
            omega
          subst hk3
          rw [List.getElem?_append_right (by omega), hl2, Nat.sub_self] at h1
          rw [List.getElem?_append_right (by omega), hl1, Nat.sub_self] at h2
          obtain rfl : i1 = i := Option.some.inj h1
          obtain rfl : v1 = x := Option.some.inj h2
          exact hi1.mono t4
      · intro i hi
        rcases List.mem_append.mp hi with h | h
        · exact hok i h
        · rw [List.mem_singleton.mp h]
          exact ⟨ho1, hd1, hs1⟩
    · rintro H' ⟨l, vs, hl1, hl2, g, e, hin, hok⟩
      refine ⟨D, vs, rfl, .inl ⟨sqd e, fun tp htp => ?_⟩⟩
      have gt := fun o => Go.new (o := o) g.dr htp
      refine ⟨(Nat.le_of_ble_eq_true rfl), fun rp hrp => ?_⟩
      have gr := fun o => Go.new (o := o) (gt _).dr hrp
      have nt : tp ≠ rp := ne_of_none upd_same hrp
      have hz : szL l ≤ 5 * (eT n).2 := by
        have := szL_le l (fun i hi => (hok i hi).2.2)
        have h5 : l.length ≤ 5 := by omega
        exact Nat.le_trans this (Nat.mul_le_mul_right _ h5)
      have hd : depL l ≤ 2 * n + 2 := depL_le l (fun i hi => (hok i hi).2.1)
      refine q _ (.grp wd l) _ (g12.trans ((gp2 _).trans (g.trans ((gt _).trans (gr _))))) (.grp upd_same (by rw [upd_ne nt]; exact upd_same) (by omega) ?_) (.grp ?_ (by omega) fun i hi => (hok i hi).1) (by rw [It.dep]; omega) (by rw [It.sz]; omega)
      · intro k i x h1 h2
        exact (hin k i x h1 h2).go ((gt _).trans (gr _)) g.dr
      · simp only [List.mem_cons, List.not_mem_nil, or_false] at hmw ⊢
        rcases hmw with h | h | h
        · exact .inl h
        · exact .inr h
        · exact .inl h
  case b =>
    refine ⟨_, rfl, _, rfl, _, rfl, _, rfl, _, _, rfl, rfl, d, nm, xs, c, δ - 1, rfl, g1.dr, hk.go g1, hc, by omega, fun v1 i1 H2 g2 hi1 ho1 hd1 hs1 => ?_⟩
    refine ⟨(Nat.le_of_ble_eq_true rfl), fun p hp => ?_⟩
    have gp := fun o => Go.new (o := o) g2.dr hp
    have b1 := Int.emod_nonneg kd (by decide : (2 : Int) ≠ 0)
    have b2 := Int.emod_lt_of_pos kd (by decide : (0 : Int) < 2)
    obtain ⟨wd, hw, hm⟩ := atI_map (f := V.str) (xs := ["less", "equal"]) (i := kd % 2) b1 (by show kd % 2 < 2; exact b2)
    refine ⟨_, rfl, _, _, rfl, rfl, (by show (0 : Int) < 2; decide), _, _, _, _, rfl, rfl, sqd upd_same, hw, _, rfl, _, rfl, _, rfl, _, rfl, _, rfl, _, _, rfl, rfl, d, nm, xs, c, δ - 1, rfl, (gp _).dr, ((hk.go g1).go g2).go (gp _), hc, by omega, fun v2 i2 H3 g3 hi2 ho2 hd2 hs2 => ?_⟩
    refine ⟨(Nat.le_of_ble_eq_true rfl), fun p2 hp2 => ?_⟩
    have gp2 := fun o => Go.new (o := o) g3.dr hp2
    exact q _ _ _ (g1.trans (g2.trans ((gp _).trans (g3.trans (gp2 _))))) (.bin upd_same (hi1.go ((gp _).trans (g3.trans (gp2 _))) g2.dr) (hi2.go (gp2 _) g3.dr)) (.cmp hm ho1 ho2) (by rw [It.dep]; omega) (by rw [It.sz]; omega)
theorem ok_ET {B : Nat} (hB : 100 ≤ B) (T : Txt K mg) : ∀ n : Nat,
    FnOk P w K mg base CX0 (3 + 2 * n) T.a_law_expression T.d_law_expression P_law_expression (spE K B n) ∧ FnOk P w K mg base CX0 (4 + 2 * n) T.a_law_test T.d_law_test P_law_test (spT K B n)
  | 0 => ⟨⟨fun _ _ _ _ h => h.elim, fun _ _ _ _ _ _ _ _ _ _ _ _ _ h => h.elim⟩, ⟨fun _ _ _ _ h => h.elim, fun _ _ _ _ _ _ _ _ _ _ _ _ _ h => h.elim⟩⟩
  | n + 1 => by
    obtain ⟨ge, gt⟩ := ok_ET hB T n
    have h1 := ok_E hB T ge gt
    have h2 := ok_T hB T h1 gt
    exact ⟨h1.mono (by omega), h2.mono (by omega)⟩
end
end NL

namespace NL
open PySem PySem.Spec PyProof.Rows L2
theorem ixN_in {n : Nat} {k : Int} (h0 : 0 ≤ k) (h1 : k < n) : ixN n k = some k.toNat := by
  unfold ixN
  rw [if_pos h0, if_pos h1]
/-- a change at what was not there before -/
theorem same_put {H H' : Hp} {p : Addr} {o : HO} (s : Same H H') (hp : H p = none) : Same H (upd H' p o) := fun b u e => by
  rw [upd_ne (ne_of_none e hp)]
  exact s b u e
section
variable {P : Program} {w : World} {K : PySem.W.Frag} {mg : Str → Option Value} {base : Heap}
def spDraws (K : PySem.W.Frag) : Sp := fun vs H Q _ => ∃ (a : Addr) (ns : List Int) (m : Int), vs = [.ref a, .int m] ∧ SqL K H a (ns.map V.int) ∧ ns.length ≤ 63 ∧ 0 ≤ m ∧ m ≤ 1000 ∧
  ∀ d H', Same H H' → H d = none → Dr H' d → Q (.ref d) H'
theorem ok_law_draws (T : Txt K mg) : FnOk P w K mg base CX0 1 T.a_law_draws T.d_law_draws P_law_draws (spDraws K) := by
  refine T.F_law_draws.ok sc_law_draws (fun vs H Q E h => ?_) (fun cdv A outer s H vs Q E hr h => ?_)
  · obtain ⟨a, ns, m, rfl, _⟩ := h
    rfl
  obtain ⟨a, ns, m, rfl, hS, hl, m0, m1, q⟩ := h
  refine ⟨_, (pss_cons (ps_setLc (i := 2) (own := [("cell", 3)]) (g := (gName 3)) (tt := tYes) rfl sc_law_draws.nd rfl rfl (sw_true rfl rfl rfl (by decide +kernel)) (pi_list (pv 0)) (blkOk_by (N := N_law_draws) (sc := defScope s_law_draws) (by decide +kernel)) (fun _ _ _ _ _ => (pg_name (i := 3) sc_law_draws.nd rfl (Or.inl rfl))) (fun _ _ _ _ _ => pts_nil) (fun _ _ _ _ _ => (pe_callTy call_int1 (by rfl) T.z_int (by decide +kernel) (pa_cons (pv 3) pa_nil))))
    (C8.pss_cut (ps_if (pt_cmpR op_eq (pe_callB call_len_seq (by rfl) T.z_len PySem.boot_len (pa_cons (pv 2) pa_nil)) pe_int (nomark _))
    (pss_one (ps_expr (pe_bm PySem.F.plainAttrs_list PySem.F.slot_list_append PySem.F.type_list_append mt_append (pv 2) (pa_cons pe_int pa_nil))))
    pss_nil)
    (pss_cons (ps_set (i := 4) sc_law_draws.nd rfl (Or.inl rfl) (pe_callTy call_list_of (by rfl) T.z_list (by decide +kernel) (pa_cons (pv 2) pa_nil)))
    (pss_cons (ps_set (i := 5) sc_law_draws.nd rfl (Or.inl rfl) (pe_lst pa_nil))
    (pss_cons (ps_for PassesOwn.never rfl (pi_range1 (by rfl) T.z_range (pa_cons (pv 1) pa_nil)) (pg_name (i := 6) sc_law_draws.nd rfl (Or.inl rfl))
    (pss_cons (ps_set (i := 7) sc_law_draws.nd rfl (Or.inl rfl) (pe_op op_mod (pv 6) (pe_callB call_len_seq (by rfl) T.z_len PySem.boot_len (pa_cons (pv 2) pa_nil))))
    (pss_one (ps_if (pt_cmpR op_ge (pe_ix ix_list (pv 2) (pv 7) (fun _ _ => rfl)) (pe_op op_pow pe_int pe_int) (nomark _))
    (pss_cons (ps_expr (pe_bm PySem.F.plainAttrs_list PySem.F.slot_list_append PySem.F.type_list_append mt_append (pv 5) (pa_cons (pe_op op_mod (pe_callTy call_int1 (by rfl) T.z_int (by decide +kernel) (pa_cons (pe_ix ix_list (pv 4) (pv 7) (fun _ _ => rfl)) pa_nil)) pe_int) pa_nil)))
    (pss_one (ps_asg (pe_op op_fdiv (pe_ix ix_list (pv 4) (pv 7) (fun _ _ => rfl)) pe_int) (pg_sub (pv 4) (pv 7) set_list))))
    (pss_cons (ps_set (i := 8) sc_law_draws.nd rfl (Or.inl rfl) (pe_op op_mod (pe_callTy call_int1 (by rfl) T.z_int (by decide +kernel) (pa_cons (pe_op op_add (pe_op op_add (pe_op op_mul (pe_ix ix_list (pv 2) (pv 7) (fun _ _ => rfl)) pe_int) (pe_op op_mul (pv 6) pe_int)) pe_int) pa_nil)) pe_int))
    (pss_one (ps_expr (pe_bm PySem.F.plainAttrs_list PySem.F.slot_list_append PySem.F.type_list_append mt_append (pv 5) (pa_cons (pe_op op_mod (pe_callTy call_int1 (by rfl) T.z_int (by decide +kernel) (pa_cons (pe_op op_add (pe_op op_add (pe_op op_mul (pv 8) (pv 8)) (pe_op op_mul pe_int (pv 8))) (pv 6)) pa_nil)) pe_int) pa_nil)))))))))
    (pss_cons (ps_expr (pe_bm0 PySem.F.plainAttrs_list PySem.F.slot_list_reverse PySem.F.type_list_reverse mt_reverse (pv 5)))
    (pss_one (ps_ret (pv 5))))))))), ?_⟩
  -- cells
  refine ⟨_, rfl, a, rfl, ⟨_, hS⟩, fun c hc => ?_⟩
  refine lc_list (K := K) (a := a) (xs := ns.map V.int) (fun (j : Nat) (H' : Hp) => Same H H' ∧ H' c = some (.lst ((ns.take j).map V.int))) ?_ ?_ ?_ ?_
  · exact ⟨same_new hc _, by rw [upd_same, List.take_zero]; rfl⟩
  · rintro i H' _ ⟨s1, _⟩
    exact s1.seq hS
  · rintro i x H' hx ⟨s1, e1⟩
    rw [List.getElem?_map] at hx
    cases hn : ns[i]? with
    | none => rw [hn] at hx; cases hx
    | some n =>
      rw [hn] at hx
      obtain rfl : V.int n = x := Option.some.inj hx
      refine ⟨rfl, yes_if ?_⟩
      refine ⟨_, rfl, .inl ⟨n, rfl, _, e1, ?_, same_put s1 hc, ?_⟩⟩
      · rw [List.length_map, List.length_take]
        exact small1000 (by omega)
      · rw [upd_same, List.take_add_one, hn, List.map_append]
        rfl
  · rintro H1 ⟨s1, e1⟩
    rw [List.length_map, List.take_length] at e1
    -- at least one cell
    refine ⟨fun σ H2 => ∃ cs : List Int, cs ≠ [] ∧ cs.length ≤ 63 ∧ σ = [some (.ref a), some (.int m), some (.ref c), none, none, none, none, none, none] ∧ Same H H2 ∧ H2 c = some (.lst (cs.map V.int)), ?_, ?_⟩
    · refine ⟨_, rfl, _, _, rfl, .inl (sqd e1), rfl, _, rfl, ?_⟩
      refine ite2 (fun z => ?_) (fun z => ?_)
      · refine ⟨_, rfl, .inl ⟨rfl, _, sqd e1⟩, c, _, _, rfl, rfl, e1, ?_, ?_⟩
        · rw [List.length_map]
          exact small1000 (by omega)
        · have hz := int_eq z
          rw [List.length_map] at hz
          have : ns = [] := List.length_eq_zero_iff.mp (by omega)
          subst this
          exact ⟨[0], by simp, by decide, rfl, same_put s1 hc, upd_same⟩
      · have hz := int_ne z
        rw [List.length_map] at hz
        refine ⟨ns, ?_, hl, rfl, s1, e1⟩
        rintro rfl
        exact hz rfl
    · rintro σ H2 ⟨cs, hcs, hcl, rfl, s2, e2⟩
      have hpos : 0 < cs.length := List.length_pos_iff.mpr hcs
      -- rest, draws
      refine ⟨_, rfl, _, _, rfl, .inl (sqd e2), fun r hr2 => ?_⟩
      have ncr : c ≠ r := ne_of_none e2 hr2
      refine ⟨(Nat.le_of_ble_eq_true rfl), fun d hd => ?_⟩
      have ncd : c ≠ d := ne_of_none (by rw [upd_ne ncr]; exact e2) hd
      have nrd : r ≠ d := ne_of_none upd_same hd
      have hHr : H r = none := s2.free hr2
      have hHd : H d = none := (s2.trans (same_new hr2 _)).free hd
      refine ⟨_, rfl, m, rfl, by omega, by omega, for_range (lo := 0) (n := m.toNat) (fun (j : Nat) (σ : L2.St) (H' : Hp) => ∃ (rs ds : List Int) (y1 y2 y3 : Option V), σ = [some (.ref a), some (.int m), some (.ref c), none, some (.ref r), some (.ref d), y1, y2, y3] ∧ Same H H' ∧ H' c = some (.lst (cs.map V.int)) ∧ H' r = some (.lst (rs.map V.int)) ∧ rs.length = cs.length ∧ H' d = some (.lst (ds.map V.int)) ∧ ds.length ≤ j) ?_ ?_ ?_⟩
      · refine ⟨cs, [], none, none, none, rfl, (s2.trans (same_new hr2 _)).trans (same_new hd _), ?_, ?_, rfl, upd_same, Nat.le_refl _⟩
        · rw [upd_ne ncd, upd_ne ncr]; exact e2
        · rw [upd_ne nrd]; exact upd_same
      · rintro j σ H' hj ⟨rs, ds, y1, y2, y3, rfl, s3, ec, er, hrl, ed, hdl⟩
        have b0 := Int.emod_nonneg ((0 : Int) + (j : Int)) (show (((cs.map V.int).length : Nat) : Int) ≠ 0 by rw [List.length_map]; omega)
        have b1 : (((0 : Int) + (j : Int)) % (((cs.map V.int).length : Nat) : Int)) < (cs.length : Int) := by
          have h := Int.emod_lt_of_pos ((0 : Int) + (j : Int)) (show 0 < (((cs.map V.int).length : Nat) : Int) by rw [List.length_map]; omega)
          rw [List.length_map] at h ⊢
          exact h
        refine ⟨_, rfl, _, rfl, _, _, rfl, .inl (sqd ec), _, _, rfl, rfl, (by show 0 < (((cs.map V.int).length : Nat) : Int); rw [List.length_map]; omega), ?_⟩
        obtain ⟨cv, hcv, _⟩ := atI_map (f := V.int) (xs := cs) b0 b1
        obtain ⟨rv, hrv, _⟩ := atI_map (f := V.int) (xs := rs) b0 (by omega)
        refine ⟨_, rfl, _, rfl, _, _, _, _, rfl, rfl, sqd ec, hcv, _, _, rfl, rfl, ⟨by decide, by decide, by decide⟩, _, _, rfl, rfl, _, rfl, ?_⟩
        refine ite2 (fun z => ?_) (fun z => ?_)
        · refine ⟨_, rfl, .inl ⟨rfl, _, sqd ed⟩, _, rfl, _, rfl, _, _, _, _, rfl, rfl, sqd er, hrv, .inl ⟨_, rfl, _, _, rfl, rfl, (by show (0 : Int) < 1000; decide), d, _, _, rfl, rfl, ed, ?_, ?_⟩⟩
          · rw [List.length_map]
            exact small1000 (by omega)
          · have er2 : ∀ o, (upd H' d o) r = some (.lst (rs.map V.int)) := fun o => by rw [upd_ne nrd]; exact er
            refine ⟨_, rfl, _, rfl, _, _, _, _, rfl, rfl, sqd (er2 _), hrv, _, _, rfl, rfl, ⟨by decide, by decide⟩, _, rfl, _, rfl, r, _, _, _, rfl, rfl, er2 _, ixN_in b0 (by have h : (rs.map V.int).length = rs.length := List.length_map _; omega), ?_⟩
            refine ⟨rs.set (((0 : Int) + (j : Int)) % (((cs.map V.int).length : Nat) : Int)).toNat (rv / 1000), ds ++ [rv % 1000], _, _, _, rfl, same_put (same_put s3 hHd) hHr, ?_, ?_, ?_, ?_, ?_⟩
            · rw [upd_ne ncr, upd_ne ncd]; exact ec
            · rw [upd_same, List.map_set]
            · rw [List.length_set]; exact hrl
            · rw [upd_ne nrd.symm, upd_same, List.map_append]; rfl
            · rw [List.length_append, List.length_singleton]; omega
        · have o0 := fun z : Int => Int.emod_nonneg z (by decide : (2147483647 : Int) ≠ 0)
          have o1 := fun z : Int => Int.emod_lt_of_pos z (by decide : (0 : Int) < 2147483647)
          refine ⟨_, rfl, _, rfl, _, _, _, _, rfl, rfl, sqd ec, hcv, _, _, rfl, rfl, .inr ⟨by decide, by decide⟩, _, rfl, _, _, rfl, rfl, .inr ⟨by decide, by decide⟩, _, _, rfl, rfl, _, _, rfl, rfl, .inl ⟨_, rfl, _, _, rfl, rfl, (by show (0 : Int) < 2147483647; decide), ?_⟩⟩
          refine ⟨_, rfl, .inl ⟨rfl, _, sqd ed⟩, _, rfl, _, rfl, _, _, rfl, rfl, ?_, ?_⟩
          · left
            have h1 := o0 (cv * 48271 + (0 + (j : Int)) * 69621 + 11)
            have h2 := o1 (cv * 48271 + (0 + (j : Int)) * 69621 + 11)
            constructor
            · show -(2 ^ 64) < _
              omega
            · show _ < 2 ^ 64
              omega
          · refine ⟨_, rfl, _, _, rfl, rfl, .inl ⟨by decide, by decide⟩, _, _, rfl, rfl, _, rfl, _, _, rfl, rfl, .inl ⟨_, rfl, _, _, rfl, rfl, (by show (0 : Int) < 1000003; decide), d, _, _, rfl, rfl, ed, ?_, ?_⟩⟩
            · rw [List.length_map]
              exact small1000 (by omega)
            · refine ⟨rs, ds ++ [(((cv * 48271 + (0 + (j : Int)) * 69621 + 11) % 2147483647) * ((cv * 48271 + (0 + (j : Int)) * 69621 + 11) % 2147483647) + 3 * ((cv * 48271 + (0 + (j : Int)) * 69621 + 11) % 2147483647) + (0 + (j : Int))) % 1000003], _, _, _, rfl, same_put s3 hHd, ?_, ?_, hrl, ?_, ?_⟩
              · rw [upd_ne ncd]; exact ec
              · rw [upd_ne nrd]; exact er
              · rw [upd_same, List.map_append]; rfl
              · rw [List.length_append, List.length_singleton]; omega
      · rintro σ H' ⟨rs, ds, y1, y2, y3, rfl, s3, ec, er, hrl, ed, hdl⟩
        refine ⟨_, rfl, .inl ⟨rfl, _, sqd ed⟩, d, _, rfl, rfl, ed, ?_⟩
        refine ⟨_, rfl, q d _ (same_put s3 hHd) hHd ⟨ds.reverse, ?_⟩⟩
        rw [upd_same, List.map_reverse]
end
end NL

namespace NL
open PySem PySem.Spec PyProof.Rows L2
/-! ### what stands in an item: its tuple -/
def It.kids : It → List It
  | .num _ => []
  | .name _ => []
  | .lit _ => []
  | .un _ a => [a]
  | .dm _ a _ => [a]
  | .bin _ a b => [a, b]
  | .tri a b c => [a, b, c]
  | .grp _ l => l
def It.word : It → Str
  | .num _ => "number"
  | .name _ => "name"
  | .lit b => bstr b
  | .un w _ => w
  | .dm w _ _ => w
  | .bin w _ _ => w
  | .tri _ _ _ => "if"
  | .grp w _ => w
/-- the items stand at the values, one by one -/
def Kids (H : Hp) (l : List It) (xs : List V) : Prop := xs.length = l.length ∧ ∀ (k : Nat) i x, l[k]? = some i → xs[k]? = some x → ItemIn H i x
theorem Kids.mono {H H' : Hp} (t : Tp H H') {l : List It} {xs : List V} (h : Kids H l xs) : Kids H' l xs := ⟨h.1, fun k i x a b => (h.2 k i x a b).mono t⟩
theorem kids1 {H : Hp} {i : It} {x : V} (h : ItemIn H i x) : Kids H [i] [x] := ⟨rfl, fun k j y a b => by
  cases k with
  | zero => cases Option.some.inj a; cases Option.some.inj b; exact h
  | succ k => simp at a⟩
theorem Kids.cons {H : Hp} {i : It} {x : V} {l : List It} {xs : List V} (h : ItemIn H i x) (g : Kids H l xs) : Kids H (i :: l) (x :: xs) := ⟨by rw [List.length_cons, List.length_cons, g.1], fun k j y a b => by
  cases k with
  | zero => cases Option.some.inj a; cases Option.some.inj b; exact h
  | succ k => exact g.2 k j y (by simpa using a) (by simpa using b)⟩
theorem kids0 {H : Hp} : Kids H [] [] := ⟨rfl, fun k j y a b => by simp at a⟩
theorem Kids.get {H : Hp} {l : List It} {xs : List V} (h : Kids H l xs) {k : Nat} {x : V} (e : xs[k]? = some x) : ∃ i, l[k]? = some i ∧ ItemIn H i x ∧ i ∈ l := by
  have hk : k < xs.length := (List.getElem?_eq_some_iff.mp e).1
  rw [h.1] at hk
  exact ⟨l[k], List.getElem?_eq_getElem hk, h.2 k _ x (List.getElem?_eq_getElem hk) e, List.getElem_mem hk⟩
/-- an item's first part is its word -/
theorem ItemIn.head {H : Hp} {i : It} {a : Addr} (h : ItemIn H i (.ref a)) : ∃ r, H a = some (.tup (.str i.word :: r)) := by
  cases h <;> exact ⟨_, by assumption⟩
/-- the conditions' words are not the expressions' -/
def tests : List Str := ["true", "false", "less", "equal", "not", "all", "any"]
def wl (x : Str) (ys : List Str) : Bool := decide (x ∈ ys)
theorem word_test {xs : List Str} {B : Nat} {b : Bool} {i : It} (h : Okx xs B b i) : wl i.word tests = b := by
  cases h with
  | num _ => simp only [It.word]; decide +kernel
  | name _ => simp only [It.word]; decide +kernel
  | lit => rename_i b; cases b <;> (simp only [It.word]; decide +kernel)
  | abs _ => simp only [It.word]; decide +kernel
  | not _ => simp only [It.word]; decide +kernel
  | dm hw _ _ _ =>
    simp only [List.mem_cons, List.not_mem_nil, or_false] at hw
    rcases hw with rfl | rfl <;> (simp only [It.word]; decide +kernel)
  | bin hw _ _ =>
    simp only [List.mem_cons, List.not_mem_nil, or_false] at hw
    rcases hw with rfl | rfl | rfl | rfl | rfl <;> (simp only [It.word]; decide +kernel)
  | cmp hw _ _ =>
    simp only [List.mem_cons, List.not_mem_nil, or_false] at hw
    rcases hw with rfl | rfl <;> (simp only [It.word]; decide +kernel)
  | tri _ _ _ => simp only [It.word]; decide +kernel
  | grp hw _ _ =>
    simp only [List.mem_cons, List.not_mem_nil, or_false] at hw
    rcases hw with rfl | rfl <;> (simp only [It.word]; decide +kernel)
/-- 0: a leaf, 1: all and any, 2: div and mod, 3: the others -/
def It.cls : It → Nat
  | .num _ => 0
  | .name _ => 0
  | .lit _ => 0
  | .grp _ _ => 1
  | .dm _ _ _ => 2
  | _ => 3
theorem word_cls {xs : List Str} {B : Nat} {b : Bool} {i : It} (h : Okx xs B b i) :
    wl i.word ["number", "name", "true", "false"] = (i.cls == 0) ∧ wl i.word ["number", "name"] = (i.cls == 0 && !b) ∧ wl i.word ["true", "false"] = (i.cls == 0 && b) ∧
    wl i.word ["all", "any"] = (i.cls == 1) ∧ wl i.word ["div", "mod"] = (i.cls == 2) := by
  cases h with
  | num _ => simp only [It.word, It.cls]; decide +kernel
  | name _ => simp only [It.word, It.cls]; decide +kernel
  | lit => rename_i b; cases b <;> (simp only [It.word, It.cls]; decide +kernel)
  | abs _ => simp only [It.word, It.cls]; decide +kernel
  | not _ => simp only [It.word, It.cls]; decide +kernel
  | dm hw _ _ _ =>
    simp only [List.mem_cons, List.not_mem_nil, or_false] at hw
    rcases hw with rfl | rfl <;> (simp only [It.word, It.cls]; decide +kernel)
  | bin hw _ _ =>
    simp only [List.mem_cons, List.not_mem_nil, or_false] at hw
    rcases hw with rfl | rfl | rfl | rfl | rfl <;> (simp only [It.word, It.cls]; decide +kernel)
  | cmp hw _ _ =>
    simp only [List.mem_cons, List.not_mem_nil, or_false] at hw
    rcases hw with rfl | rfl <;> (simp only [It.word, It.cls]; decide +kernel)
  | tri _ _ _ => simp only [It.word, It.cls]; decide +kernel
  | grp hw _ _ =>
    simp only [List.mem_cons, List.not_mem_nil, or_false] at hw
    rcases hw with rfl | rfl <;> (simp only [It.word, It.cls]; decide +kernel)
/-- x in [a, b, ..], (a, b, ..): texts, the answer known -/
theorem inT {x : Str} {ys : List Str} {zs : List V} {b : Bool} (hz : zs = ys.map V.str) (h : wl x ys = b) : (if false = true then !inV (V.str x) zs else inV (V.str x) zs) = b := by
  rw [if_neg Bool.false_ne_true, hz, inV_str]; exact h
theorem ifT {c : Bool} {A B : Prop} (h : c = true) (a : A) : if c = true then A else B := by
  rw [if_pos h]; exact a
theorem ifF {c : Bool} {A B : Prop} (h : c = false) (b : B) : if c = true then A else B := by
  rw [if_neg (by rw [h]; exact Bool.false_ne_true)]; exact b
theorem blE {Q : VK} {b b' : Bool} {H : Hp} (h : b = b') (q : Q (.bl b') H) : Q (.bl b) H := by rw [h]; exact q
theorem flatW (ys : List Str) (zs : List V) (hz : zs = ys.map V.str) : zs.all flatV = true := by rw [hz]; exact flat_strs' ys
theorem atI0 {α : Type} {x : α} {r : List α} : atI (x :: r) 0 = some x := atI_nat (j := 0) rfl
theorem atI1 {α : Type} {x y : α} {r : List α} : atI (x :: y :: r) 1 = some y := atI_nat (j := 1) rfl
theorem atI2 {α : Type} {x y z : α} {r : List α} : atI (x :: y :: z :: r) 2 = some z := atI_nat (j := 2) rfl
/-- behind the first -/
theorem cut_tail (x : V) (r : List V) : cutV (x :: r) (some 1) none = r := by
  unfold cutV
  rw [show HT.sIx (x :: r).length 0 (some 1) = min 1 (x :: r).length from HT.sIx_nat (x :: r).length 0 1, HT.sIx_none]
  rw [show min 1 (x :: r).length = 1 by rw [List.length_cons]; omega]
  show List.take ((x :: r).length - 1) r = r
  rw [List.length_cons, Nat.add_sub_cancel]
  exact List.take_length
theorem not_whole (x : V) (r : List V) (hi : Option Int) : ¬ (HT.sIx (x :: r).length 0 (some 1) = 0 ∧ HT.sIx (x :: r).length (x :: r).length hi = (x :: r).length) := by
  rintro ⟨h, _⟩
  rw [show HT.sIx (x :: r).length 0 (some 1) = min 1 (x :: r).length from HT.sIx_nat (x :: r).length 0 1, List.length_cons] at h
  omega
/-- the parts of an item that is no leaf, no group and no div: behind its word -/
theorem ItemIn.rest {H : Hp} {i : It} {a : Addr} (h : ItemIn H i (.ref a)) (h3 : i.cls = 3) : ∃ r, H a = some (.tup (.str i.word :: r)) ∧ Kids H i.kids r := by
  cases h with
  | num _ => cases h3
  | name _ => cases h3
  | lit _ => cases h3
  | un e g => exact ⟨_, e, kids1 g⟩
  | dm _ _ => cases h3
  | bin e g k => exact ⟨_, e, .cons g (kids1 k)⟩
  | tri e g k l => exact ⟨_, e, .cons g (.cons k (kids1 l))⟩
  | grp _ _ _ _ => cases h3
theorem ItemIn.group {H : Hp} {i : It} {a : Addr} (h : ItemIn H i (.ref a)) (h3 : i.cls = 1) : ∃ b xs, H a = some (.tup [.str i.word, .ref b]) ∧ H b = some (.tup xs) ∧ Kids H i.kids xs := by
  cases h with
  | grp e f g k => exact ⟨_, _, e, f, g, k⟩
  | num _ => cases h3
  | name _ => cases h3
  | lit _ => cases h3
  | un e g => cases h3
  | dm _ _ => cases h3
  | bin e g k => cases h3
  | tri e g k l => cases h3
theorem ItemIn.divs {H : Hp} {i : It} {a : Addr} (h : ItemIn H i (.ref a)) (h3 : i.cls = 2) : ∃ x j n, H a = some (.tup [.str i.word, x, .int n]) ∧ ItemIn H j x ∧ i = .dm i.word j n := by
  cases h with
  | dm e g => exact ⟨_, _, _, e, g, rfl⟩
  | grp e f g k => cases h3
  | num _ => cases h3
  | name _ => cases h3
  | lit _ => cases h3
  | un e g => cases h3
  | bin e g k => cases h3
  | tri e g k l => cases h3
theorem cls_le (i : It) : i.cls = 0 ∨ i.cls = 1 ∨ i.cls = 2 ∨ i.cls = 3 := by cases i <;> simp [It.cls]
theorem kids_leaf {i : It} (h : i.cls = 0) : i.kids = [] := by cases i <;> first | rfl | cases h
theorem Kids.snoc {H : Hp} {l : List It} {vs : List V} {i : It} {v : V} (h : Kids H l vs) (hi : ItemIn H i v) : Kids H (l ++ [i]) (vs ++ [v]) := by
  obtain ⟨hl, hin⟩ := h
  refine ⟨by rw [List.length_append, List.length_append, hl] <;> rfl, fun k j x h1 h2 => ?_⟩
  by_cases hk : k < l.length
  · rw [List.getElem?_append_left (by omega)] at h1 h2
    exact hin k j x h1 h2
  · have hk3 : k = l.length := by
      have := (List.getElem?_eq_some_iff.mp h1).1
      rw [List.length_append, List.length_singleton] at this
      omega
    subst hk3
    rw [List.getElem?_append_right (by omega), Nat.sub_self] at h1
    rw [List.getElem?_append_right (by omega), hl, Nat.sub_self] at h2
    obtain rfl : i = j := Option.some.inj h1
    obtain rfl : v = x := Option.some.inj h2
    exact hi
theorem tp_put {H : Hp} {p : Addr} {xs : List V} {o : HO} (e : H p = some (.lst xs)) : Tp H (upd H p o) := fun a ys ea => by
  rw [upd_ne]
  · exact ea
  · rintro rfl
    rw [e] at ea; cases ea
theorem Kids.ok {H : Hp} {l : List It} {vs : List V} (h : Kids H l vs) {w : Str} {a b : Addr} (ha : H a = some (.tup [.str w, .ref b])) (hb : H b = some (.tup vs)) : ItemIn H (.grp w l) (.ref a) := .grp ha hb h.1 h.2
/-- a change at what was not there before keeps what is drawn -/
theorem Go.put2 {d p : Addr} {H H' : Hp} {o : HO} (g : Go d H H') (hp : H p = none) (n : p ≠ d) : Go d H (upd H' p o) := ⟨fun b u hb e => by
  rw [upd_ne (ne_of_none e hp)]
  exact g.fr b u hb e, by
  obtain ⟨ns, e⟩ := g.dr
  exact ⟨ns, by rw [upd_ne n.symm]; exact e⟩⟩
section
variable {P : Program} {w : World} {K : PySem.W.Frag} {mg : Str → Option Value} {base : Heap}
/-! ### _law_is_test -/
def spIsTest : Sp := fun vs H Q _ => ∃ (v : V) (i : It) (xs : List Str) (B : Nat) (b : Bool), vs = [v] ∧ ItemIn H i v ∧ Okx xs B b i ∧ ∀ H', Same H H' → Q (.bl b) H'
theorem ok_law_is_test (T : Txt K mg) : FnOk P w K mg base CX0 1 T.a_law_is_test T.d_law_is_test P_law_is_test spIsTest := by
  refine T.F_law_is_test.ok sc_law_is_test (fun vs H Q E h => ?_) (fun cdv A outer s H vs Q E hr h => ?_)
  · obtain ⟨v, i, xs, B, b, rfl, _⟩ := h
    rfl
  obtain ⟨v, i, xs, B, b, rfl, hi, ho, q⟩ := h
  obtain ⟨a, rfl⟩ := hi.ref
  obtain ⟨r, ha⟩ := hi.head
  refine ⟨_, (pss_one (ps_ret (pe_cmpR op_in_seq (pe_ix ix_tup (pv 0) pe_int (fun _ _ => rfl)) (pe_lst (pa_cons pe_str (pa_cons pe_str (pa_cons pe_str (pa_cons pe_str (pa_cons pe_str (pa_cons pe_str (pa_cons pe_str pa_nil)))))))) (by rfl)))), ?_⟩
  refine ⟨_, rfl, a, _, 0, _, rfl, rfl, sqt ha, atI0, (Nat.le_of_ble_eq_true rfl), fun p hp => ?_⟩
  refine ⟨p, _, rfl, .inl (sqd upd_same), rfl, by decide +kernel, ?_⟩
  exact blE (inT (ys := tests) rfl (word_test ho)) (q _ (same_new hp _))
/-! ### _law_inner: the parts as a new list -/
def spInner : Sp := fun vs H Q _ => ∃ (v : V) (i : It) (xs : List Str) (B : Nat) (b : Bool), vs = [v] ∧ ItemIn H i v ∧ Okx xs B b i ∧ ∀ p ys H', Same H H' → H p = none → H' p = some (.lst ys) → Kids H' i.kids ys → Q (.ref p) H'
theorem ok_law_inner (T : Txt K mg) : FnOk P w K mg base CX0 1 T.a_law_inner T.d_law_inner P_law_inner spInner := by
  refine T.F_law_inner.ok sc_law_inner (fun vs H Q E h => ?_) (fun cdv A outer s H vs Q E hr h => ?_)
  · obtain ⟨v, i, xs, B, b, rfl, _⟩ := h
    rfl
  obtain ⟨v, i, xs, B, b, rfl, hi, ho, q⟩ := h
  obtain ⟨a, rfl⟩ := hi.ref
  obtain ⟨r, ha⟩ := hi.head
  obtain ⟨c0, _, _, c1, c2⟩ := word_cls ho
  refine ⟨_, (pss_cons (ps_if (pt_cmpR op_in_seq (pe_ix ix_tup (pv 0) pe_int (fun _ _ => rfl)) (pe_lst (pa_cons pe_str (pa_cons pe_str (pa_cons pe_str (pa_cons pe_str pa_nil))))) (by rfl))
    (pss_one (ps_ret (pe_lst pa_nil)))
    pss_nil)
    (pss_cons (ps_if (pt_cmpR op_in_seq (pe_ix ix_tup (pv 0) pe_int (fun _ _ => rfl)) (pe_lst (pa_cons pe_str (pa_cons pe_str pa_nil))) (by rfl))
    (pss_one (ps_ret (pe_callTy call_list_of (by rfl) T.z_list (by decide +kernel) (pa_cons (pe_ix ix_tup (pv 0) pe_int (fun _ _ => rfl)) pa_nil))))
    pss_nil)
    (pss_cons (ps_if (pt_cmpR op_in_seq (pe_ix ix_tup (pv 0) pe_int (fun _ _ => rfl)) (pe_lst (pa_cons pe_str (pa_cons pe_str pa_nil))) (by rfl))
    (pss_one (ps_ret (pe_lst (pa_cons (pe_ix ix_tup (pv 0) pe_int (fun _ _ => rfl)) pa_nil))))
    pss_nil)
    (pss_one (ps_ret (pe_callTy call_list_of (by rfl) T.z_list (by decide +kernel) (pa_cons (pe_slice sl_tup (pv 0) (po_some pe_int) po_none) pa_nil))))))), ?_⟩
  refine ⟨_, rfl, a, _, 0, _, rfl, rfl, sqt ha, atI0, (Nat.le_of_ble_eq_true rfl), fun p1 hp1 => ?_⟩
  have s1 := fun o => same_new hp1 o
  refine ⟨p1, _, rfl, .inl (sqd upd_same), rfl, (by decide +kernel), _, rfl, ?_⟩
  rcases cls_le i with h0 | h1 | h2 | h3
  · refine ifT (inT (ys := ["number", "name", "true", "false"]) rfl (by rw [c0, h0] <;> rfl)) ?_
    refine ⟨(Nat.le_of_ble_eq_true rfl), fun p hp => ?_⟩
    refine q p [] _ ((s1 _).trans (same_new hp _)) ((s1 _).free hp) upd_same ?_
    rw [kids_leaf h0]
    exact kids0
  · refine ifF (inT (ys := ["number", "name", "true", "false"]) rfl (by rw [c0, h1] <;> rfl)) ?_
    obtain ⟨b2, ys, e1, e2, hk⟩ := hi.group h1
    refine ⟨_, rfl, a, _, 0, _, rfl, rfl, sqt (s1 _ _ _ e1), atI0, (Nat.le_of_ble_eq_true rfl), fun p2 hp2 => ?_⟩
    have s2 := fun o => (s1 _).trans (same_new hp2 o)
    refine ⟨p2, _, rfl, .inl (sqd upd_same), rfl, (by decide +kernel), _, rfl, ?_⟩
    refine ifT (inT (ys := ["all", "any"]) rfl (by rw [c1, h1] <;> rfl)) ?_
    refine ⟨_, rfl, a, _, 1, _, rfl, rfl, sqt (s2 _ _ _ e1), atI1, _, _, rfl, .inr (sqt (s2 _ _ _ e2)), fun p hp => ?_⟩
    exact q p ys _ ((s2 _).trans (same_new hp _)) ((s2 _).free hp) upd_same (hk.mono (Tp.same ((s2 _).trans (same_new hp _))))
  · refine ifF (inT (ys := ["number", "name", "true", "false"]) rfl (by rw [c0, h2] <;> rfl)) ?_
    obtain ⟨x, j, n, e1, hj, ej⟩ := hi.divs h2
    refine ⟨_, rfl, a, _, 0, _, rfl, rfl, sqt (s1 _ _ _ e1), atI0, (Nat.le_of_ble_eq_true rfl), fun p2 hp2 => ?_⟩
    have s2 := fun o => (s1 _).trans (same_new hp2 o)
    refine ⟨p2, _, rfl, .inl (sqd upd_same), rfl, (by decide +kernel), _, rfl, ?_⟩
    refine ifF (inT (ys := ["all", "any"]) rfl (by rw [c1, h2] <;> rfl)) ?_
    refine ⟨_, rfl, a, _, 0, _, rfl, rfl, sqt (s2 _ _ _ e1), atI0, (Nat.le_of_ble_eq_true rfl), fun p3 hp3 => ?_⟩
    have s3 := fun o => (s2 _).trans (same_new hp3 o)
    refine ⟨p3, _, rfl, .inl (sqd upd_same), rfl, (by decide +kernel), _, rfl, ?_⟩
    refine ifT (inT (ys := ["div", "mod"]) rfl (by rw [c2, h2] <;> rfl)) ?_
    refine ⟨_, rfl, a, _, 1, _, rfl, rfl, sqt (s3 _ _ _ e1), atI1, (Nat.le_of_ble_eq_true rfl), fun p hp => ?_⟩
    refine q p [x] _ ((s3 _).trans (same_new hp _)) ((s3 _).free hp) upd_same ?_
    rw [ej]
    exact kids1 (hj.mono (Tp.same ((s3 _).trans (same_new hp _))))
  · refine ifF (inT (ys := ["number", "name", "true", "false"]) rfl (by rw [c0, h3] <;> rfl)) ?_
    obtain ⟨ys, e1, hk⟩ := hi.rest h3
    refine ⟨_, rfl, a, _, 0, _, rfl, rfl, sqt (s1 _ _ _ e1), atI0, (Nat.le_of_ble_eq_true rfl), fun p2 hp2 => ?_⟩
    have s2 := fun o => (s1 _).trans (same_new hp2 o)
    refine ⟨p2, _, rfl, .inl (sqd upd_same), rfl, (by decide +kernel), _, rfl, ?_⟩
    refine ifF (inT (ys := ["all", "any"]) rfl (by rw [c1, h3] <;> rfl)) ?_
    refine ⟨_, rfl, a, _, 0, _, rfl, rfl, sqt (s2 _ _ _ e1), atI0, (Nat.le_of_ble_eq_true rfl), fun p3 hp3 => ?_⟩
    have s3 := fun o => (s2 _).trans (same_new hp3 o)
    refine ⟨p3, _, rfl, .inl (sqd upd_same), rfl, (by decide +kernel), _, rfl, ?_⟩
    refine ifF (inT (ys := ["div", "mod"]) rfl (by rw [c2, h3] <;> rfl)) ?_
    refine ⟨_, rfl, 1, rfl, a, _, rfl, sqt (s3 _ _ _ e1), not_whole _ _ _, fun p4 hp4 => ?_⟩
    have s4 := fun o => (s3 _).trans (same_new hp4 o)
    rw [cut_tail]
    refine ⟨_, _, rfl, .inr (sqt upd_same), fun p hp => ?_⟩
    exact q p ys _ ((s4 _).trans (same_new hp _)) ((s4 _).free hp) upd_same (hk.mono (Tp.same ((s4 _).trans (same_new hp _))))
end
end NL

namespace NL
open PySem PySem.Spec PyProof.Rows L2
/-! ### is all right in an item: a great number, else a small one -/
def nmOk (z : Str) : Bool := decide (z ≠ "") && (decide (z ∉ res) && z.cps.toList.all fun c => decide (97 ≤ c ∧ c ≤ 122))
mutual
def It.gd : It → Nat
  | .num _ => 1000000
  | .name x => if nmOk x = true then 1000000 else 0
  | .lit _ => 1000000
  | .un _ a => a.gd
  | .dm _ a n => min a.gd (1000000 * n.toNat)
  | .bin _ a b => min a.gd b.gd
  | .tri a b c => min a.gd (min b.gd c.gd)
  | .grp _ l => gdL l
def gdL : List It → Nat
  | [] => 1000000
  | a :: r => min a.gd (gdL r)
end
end NL

namespace NL
open PySem PySem.Spec PyProof.Rows L2
/-! ### what an expression is worth, by a fact that stays -/
def EvP (te : TE) (σ : L2.St) (H : Hp) (P : V → Hp → Prop) : Prop := ∀ H1, Same H H1 → ∀ Q : VK, (∀ v H2, Same H1 H2 → P v H2 → Q v H2) → te σ H1 Q
def EvA (ta : TA) (σ : L2.St) (H : Hp) (P : List V → Hp → Prop) : Prop := ∀ H1, Same H H1 → ∀ Q : List V → Hp → Prop, (∀ vs H2, Same H1 H2 → P vs H2 → Q vs H2) → ta σ H1 Q
def Mo (P : V → Hp → Prop) : Prop := ∀ v H H', Same H H' → P v H → P v H'
def MoA (P : List V → Hp → Prop) : Prop := ∀ vs H H', Same H H' → P vs H → P vs H'
section
variable {σ : L2.St} {H : Hp} {P P' P1 : V → Hp → Prop} {Pr Pa : List V → Hp → Prop} {te : TE} {ta tr : TA} {v : V} {K : PySem.W.Frag}
theorem evp_imp (h : EvP te σ H P) (g : ∀ v H', Same H H' → P v H' → P' v H') : EvP te σ H P' := fun H1 s Q q => h H1 s Q fun v H2 s2 p => q v H2 s2 (g v H2 (s.trans s2) p)
theorem eva_imp {Pa' : List V → Hp → Prop} (h : EvA ta σ H Pa) (g : ∀ v H', Same H H' → Pa v H' → Pa' v H') : EvA ta σ H Pa' := fun H1 s Q q => h H1 s Q fun v H2 s2 p => q v H2 s2 (g v H2 (s.trans s2) p)
theorem evp_c : EvP (tC v) σ H (fun x _ => x = v) := fun H1 _ Q q => q v H1 (Same.refl H1) rfl
theorem evp_v {i : Nat} (h : σ[i]? = some (some v)) : EvP (tVar i) σ H (fun x _ => x = v) := fun H1 _ Q q => ⟨v, h, q v H1 (Same.refl H1) rfl⟩
theorem eva_nil : EvA tNil σ H (fun vs _ => vs = []) := fun H1 _ Q q => q [] H1 (Same.refl H1) rfl
theorem eva_cons (h : EvP te σ H P) (m : Mo P) (hr : EvA tr σ H Pr) : EvA (tCons te tr) σ H (fun vs H' => ∃ v r, vs = v :: r ∧ P v H' ∧ Pr r H') := fun H1 s Q q =>
  h H1 s _ fun v H2 s2 p => hr H2 (s.trans s2) _ fun r H3 s3 pr => q _ H3 (s2.trans s3) ⟨v, r, rfl, m _ _ _ s3 p, pr⟩
theorem evp_tup (h : EvA ta σ H Pa) (m : MoA Pa) (hl : ∀ vs H', Pa vs H' → vs.length ≤ 1000) : EvP (tTup ta) σ H (fun v H' => ∃ p xs, v = .ref p ∧ H' p = some (.tup xs) ∧ Pa xs H') := fun H1 s Q q =>
  h H1 s _ fun xs H2 s2 pa => ⟨Nat.le_of_lt (small1000 (hl _ _ pa)), fun p hp => q _ _ (s2.trans (same_new hp _)) ⟨p, xs, rfl, upd_same, m _ _ _ (same_new hp _) pa⟩⟩
/-- a tuple of constants and slots: its items -/
theorem evp_fix {xs : List V} (h : EvA ta σ H (fun vs _ => vs = xs)) (hl : xs.length ≤ 1000) : EvP (tTup ta) σ H (fun v H' => ∃ p, v = .ref p ∧ H' p = some (.tup xs)) :=
  evp_imp (evp_tup h (fun _ _ _ _ e => e) (fun vs _ e => by rw [e]; exact hl)) fun v H' _ ⟨p, ys, e, e2, e3⟩ => ⟨p, e, by rw [e2, e3]⟩
theorem eva_c {xs : List V} (hr : EvA tr σ H (fun vs _ => vs = xs)) : EvA (tCons (tC v) tr) σ H (fun vs _ => vs = v :: xs) := fun H1 s Q q => hr H1 s _ fun r H2 s2 e => q _ H2 s2 (by rw [e])
theorem eva_v {i : Nat} {xs : List V} (h : σ[i]? = some (some v)) (hr : EvA tr σ H (fun vs _ => vs = xs)) : EvA (tCons (tVar i) tr) σ H (fun vs _ => vs = v :: xs) := fun H1 s Q q => ⟨v, h, hr H1 s _ fun r H2 s2 e => q _ H2 s2 (by rw [e])⟩
/-- a list of items that are all of one kind -/
def All (n : Nat) (P : V → Hp → Prop) : List V → Hp → Prop := fun vs H => vs.length = n ∧ ∀ v ∈ vs, P v H
theorem all_mo {n : Nat} (m : Mo P) : MoA (All n P) := fun vs H H' s h => ⟨h.1, fun v hv => m v H H' s (h.2 v hv)⟩
theorem eva_all0 : EvA tNil σ H (All 0 P) := eva_imp eva_nil fun vs _ _ e => ⟨by rw [e] <;> rfl, fun v hv => by rw [e] at hv; cases hv⟩
theorem eva_all {n : Nat} (m : Mo P) (h : EvP te σ H P) (hr : EvA tr σ H (All n P)) : EvA (tCons te tr) σ H (All (n + 1) P) := eva_imp (eva_cons h m hr) fun vs H' _ ⟨v, r, e, p, pr⟩ => ⟨by rw [e, List.length_cons, pr.1], fun x hx => by
  rw [e] at hx
  rcases List.mem_cons.mp hx with h | h
  · rw [h]; exact p
  · exact pr.2 x h⟩
theorem evp_lst (h : EvA ta σ H Pa) (m : MoA Pa) (hl : ∀ vs H', Pa vs H' → vs.length ≤ 1000) : EvP (tLst ta) σ H (fun v H' => ∃ p xs, v = .ref p ∧ H' p = some (.lst xs) ∧ Pa xs H' ∧ H p = none) := fun H1 s Q q =>
  h H1 s _ fun xs H2 s2 pa => ⟨Nat.le_of_lt (small1000 (hl _ _ pa)), fun p hp => q _ _ (s2.trans (same_new hp _)) ⟨p, xs, rfl, upd_same, m _ _ _ (same_new hp _) pa, (s.trans s2).free hp⟩⟩
/-- (w,) + both -/
theorem evp_wcat {w : V} {i : Nat} {b : Addr} {xs : List V} (hb : H b = some (.tup xs)) (hx : xs ≠ []) (hl : xs.length ≤ 900) (hi : σ[i]? = some (some (.ref b))) :
    EvP (tOp (rCatA K) (tTup (tCons (tC w) tNil)) (tVar i)) σ H (fun v H' => ∃ p, v = .ref p ∧ H' p = some (.tup (w :: xs))) := fun H1 s Q q => by
  refine ⟨(Nat.le_of_ble_eq_true rfl), fun p hp => ⟨_, hi, p, b, _, _, rfl, rfl, sqt upd_same, sqt (same_new hp _ _ _ (s _ _ hb)), ?_, (fun h => by cases h), fun _ h => absurd h hx, fun _ _ p2 hp2 => ?_⟩⟩
  · rw [List.length_singleton]
    exact Nat.le_of_lt (small1000 (by omega))
  · exact q _ _ ((same_new hp _).trans (same_new hp2 _)) ⟨p2, rfl, upd_same⟩
end
theorem valE {Q : VK} {a b : Int} {H : Hp} (h : a = b) (q : Q (.int b) H) : Q (.int a) H := by rw [h]; exact q
/-! ### items one level deeper -/
def ItP (xs : List Str) (B D S : Nat) : V → Hp → Prop := fun v H => ∃ (i : It) (b : Bool), ItemIn H i v ∧ Okx xs B b i ∧ i.dep = D ∧ i.gd ≤ S
theorem itp_mo {xs : List Str} {B D S : Nat} : Mo (ItP xs B D S) := fun v H H' s ⟨i, b, h, r⟩ => ⟨i, b, h.mono (Tp.same s), r⟩
section
variable {P : Program} {w : World} {K : PySem.W.Frag} {mg : Str → Option Value} {base : Heap}
/-! ### _law_depth -/
def spDepth (n : Nat) : Sp := fun vs H Q _ => ∃ (v : V) (i : It) (xs : List Str) (B : Nat) (b : Bool), vs = [v] ∧ ItemIn H i v ∧ Okx xs B b i ∧ i.dep ≤ n ∧ ∀ H', Same H H' → Q (.int i.dep) H'
theorem kids_dep {i : It} : i.dep = 1 + depL i.kids := by
  cases i <;> simp only [It.dep, It.kids, depL] <;> omega
theorem kids_ok {xs : List Str} {B : Nat} {b : Bool} {i : It} (h : Okx xs B b i) : ∀ j ∈ i.kids, ∃ b', Okx xs B b' j := by
  intro j hj
  cases h <;> simp only [It.kids, List.mem_cons, List.not_mem_nil, or_false] at hj
  case abs h => rw [hj]; exact ⟨_, h⟩
  case not h => rw [hj]; exact ⟨_, h⟩
  case dm h _ _ => rw [hj]; exact ⟨_, h⟩
  case bin h g =>
    rcases hj with e | e <;> rw [e]
    · exact ⟨_, h⟩
    · exact ⟨_, g⟩
  case cmp h g =>
    rcases hj with e | e <;> rw [e]
    · exact ⟨_, h⟩
    · exact ⟨_, g⟩
  case tri h g k =>
    rcases hj with e | e | e <;> rw [e]
    · exact ⟨_, h⟩
    · exact ⟨_, g⟩
    · exact ⟨_, k⟩
  case grp h => exact ⟨_, h j hj⟩
theorem kids_len {xs : List Str} {B : Nat} {b : Bool} {i : It} (h : Okx xs B b i) : i.kids.length ≤ 100 := by
  cases h <;> simp only [It.kids, List.length_cons, List.length_nil] <;> omega
theorem depL_in {l : List It} {i : It} (h : i ∈ l) : i.dep ≤ depL l := by
  induction l with
  | nil => cases h
  | cons a r ih =>
    rw [depL]
    rcases List.mem_cons.mp h with e | e
    · rw [e]; omega
    · have := ih e
      omega
theorem depL_max : ∀ l : List It, (∀ y ∈ (0 :: l.map fun i => (i.dep : Int)), y ≤ (depL l : Int)) ∧ (depL l : Int) ∈ (0 :: l.map fun i => (i.dep : Int))
  | [] => by
    rw [depL]
    refine ⟨fun y hy => ?_, List.mem_cons_self⟩
    rcases List.mem_cons.mp hy with h | h
    · rw [h]; exact Int.le_refl 0
    · cases h
  | a :: r => by
    obtain ⟨h1, h2⟩ := depL_max r
    rw [depL]
    refine ⟨fun y hy => ?_, ?_⟩
    · rw [List.map_cons] at hy
      rcases List.mem_cons.mp hy with h | h
      · omega
      · rcases List.mem_cons.mp h with h | h
        · omega
        · have := h1 y (List.mem_cons_of_mem _ h)
          omega
    · rw [List.map_cons]
      rcases Nat.le_total a.dep (depL r) with h | h
      · rw [Nat.max_eq_right h]
        rcases List.mem_cons.mp h2 with g | g
        · rw [g]; exact List.mem_cons_self
        · exact List.mem_cons_of_mem _ (List.mem_cons_of_mem _ g)
      · rw [Nat.max_eq_left h]
        exact List.mem_cons_of_mem _ List.mem_cons_self
theorem ok_law_depth (T : Txt K mg) : ∀ n : Nat, FnOk P w K mg base CX0 (n + 2) T.a_law_depth T.d_law_depth P_law_depth (spDepth n)
  | 0 => by
    have no : ∀ vs H Q E, ¬ spDepth 0 vs H Q E := fun vs H Q E ⟨v, i, xs, B, b, _, _, _, h, _⟩ => by
      have := dep_pos i
      omega
    exact ⟨fun vs H Q E h => absurd h (no vs H Q E), fun A outer s H args us vs Q E _ _ _ _ h => absurd h (no vs H Q E)⟩
  | n + 1 => by
    have G_law_depth := ok_law_depth T n
    have G_law_inner := ok_law_inner (P := P) (w := w) (base := base) T
    refine T.F_law_depth.ok sc_law_depth (fun vs H Q E h => ?_) (fun cdv A outer s H vs Q E hr h => ?_)
    · obtain ⟨v, i, xs, B, b, rfl, _⟩ := h
      rfl
    obtain ⟨v, i, xs, B, b, rfl, hi, ho, hd, q⟩ := h
    refine ⟨_, (pss_one (ps_ret (pe_op op_add pe_int (pe_callB (cr_max rfl) (by rfl) T.z_max (by decide +kernel) (pa_cons (pe_op op_cat (pe_lst (pa_cons pe_int pa_nil)) (pe_lc (own := [("part", 1)]) (g := (gName 1)) (tt := tYes) rfl sc_law_depth.nd (pi_list (pe_call G_law_inner (hr.mono (by omega)) (by rfl) T.m_law_inner T.F_law_inner.kp T.b_law_inner .nil pass0 (pa_cons (pv 0) pa_nil))) (blkOk_by (N := N_law_depth) (sc := defScope s_law_depth) (by decide +kernel)) (fun _ _ _ _ _ => (pg_name (i := 1) sc_law_depth.nd rfl (Or.inl rfl))) (fun _ _ _ _ _ => pts_nil) (fun _ _ _ _ _ => (pe_call G_law_depth (hr.mono (by omega)) (by rfl) T.m_law_depth T.F_law_depth.kp T.b_law_depth .nil pass0 (pa_cons (pv 1) pa_nil))))) pa_nil))))), ?_⟩
    refine ⟨(Nat.le_of_ble_eq_true rfl), fun p1 hp1 => ?_⟩
    have s1 := fun o => same_new hp1 o
    refine ⟨_, rfl, v, i, xs, B, b, rfl, hi.mono (Tp.same (s1 _)), ho, fun lp ys H2 s2 hlp e2 hk => ?_⟩
    refine ⟨lp, rfl, ⟨_, sqd e2⟩, fun D hD => ?_⟩
    have e1 := s2 p1 _ upd_same
    have n1D : p1 ≠ D := ne_of_none e1 hD
    have hkd := @kids_dep i
    refine lc_list (K := K) (a := lp) (xs := ys) (fun (j : Nat) (H' : Hp) => Same H2 H' ∧ H' D = some (.lst ((i.kids.take j).map fun k => V.int k.dep))) ?_ ?_ ?_ ?_
    · exact ⟨same_new hD _, by rw [upd_same, List.take_zero]; rfl⟩
    · rintro j H' _ ⟨s3, _⟩
      exact sqd (s3 _ _ e2)
    · rintro j x H' hx ⟨s3, e3⟩
      obtain ⟨kj, hkj, hin, hmem⟩ := hk.get hx
      obtain ⟨b', ho'⟩ := kids_ok ho kj hmem
      have hdj := depL_in hmem
      refine ⟨rfl, yes_if ?_⟩
      refine ⟨_, rfl, _, kj, xs, B, b', rfl, hin.mono (Tp.same s3), ho', by omega, fun H4 s4 => ?_⟩
      refine ⟨_, s4 _ _ e3, ?_, same_put (s3.trans s4) hD, ?_⟩
      · rw [List.length_map, List.length_take]
        have := kids_len ho
        exact small1000 (by omega)
      · rw [upd_same, List.take_add_one, hkj, List.map_append]
        rfl
    · rintro H3 ⟨s3, e3⟩
      rw [hk.1, List.take_length] at e3
      have hkl := kids_len ho
      refine ⟨p1, D, _, _, rfl, rfl, s3 _ _ e1, e3, ?_, fun p4 hp4 => ?_⟩
      · rw [List.length_map, List.length_singleton]
        exact Nat.le_of_lt (small1000 (by omega))
      · refine ⟨p4, 0 :: i.kids.map (fun k => (k.dep : Int)), rfl, sqd ?_, Nat.succ_pos _, fun m hm hmx => ?_⟩
        · rw [upd_same, List.map_cons, List.map_map]
          rfl
        · obtain ⟨g1, g2⟩ := depL_max i.kids
          have h1 := g1 m hm
          have h2 := hmx _ g2
          have e : 1 + m = (i.dep : Int) := by omega
          refine ⟨_, _, rfl, rfl, ?_⟩
          exact valE e (q _ ((s1 _).trans (s2.trans (s3.trans (same_new hp4 _)))))
end
end NL

namespace NL
open PySem PySem.Spec PyProof.Rows L2
theorem gn {i : Nat} {v : V} {σ : L2.St} {H : Hp} {Q : L2.St → Hp → Prop} (h : Q (σ.set i (some v)) H) : gName i v σ H Q := h
theorem r_seq {t u : TS} {D : Ends} {σ : L2.St} {H : Hp} (h : t { D with nx := u D } σ H) : tSeq t u D σ H := h
theorem r_asg {te : TE} {g : TG} {D : Ends} {σ : L2.St} {H : Hp} (h : te σ H fun x H1 => g x σ H1 D.nx) : tAsg te g D σ H := h
theorem r_op {r : R2} {ta tb : TE} {σ : L2.St} {H : Hp} {Q : VK} (h : ta σ H fun x H1 => tb σ H1 fun y H2 => r x y H2 Q) : tOp r ta tb σ H Q := h
theorem mo_eq {v : V} : Mo (fun x _ => x = v) := fun _ _ _ _ e => e
theorem moa_eq {xs : List V} : MoA (fun vs _ => vs = xs) := fun _ _ _ _ e => e
theorem moa_cons {P : V → Hp → Prop} {Pr : List V → Hp → Prop} (m : Mo P) (g : MoA Pr) : MoA (fun vs H' => ∃ v r, vs = v :: r ∧ P v H' ∧ Pr r H') := fun _ _ _ s ⟨v, r, e, p, q⟩ => ⟨v, r, e, m _ _ _ s p, g _ _ _ s q⟩
/-- a tuple of these items is at v -/
abbrev TupP (xs : List V) : V → Hp → Prop := fun v H => ∃ p, v = .ref p ∧ H p = some (.tup xs)
theorem mo_tup {xs : List V} : Mo (TupP xs) := fun _ _ _ s ⟨p, e, h⟩ => ⟨p, e, s _ _ h⟩
section
variable {σ : L2.St} {H : Hp} {v sv : V} {i si : It} {xs : List Str} {B : Nat} {K : PySem.W.Frag}
theorem p_abs (hv : σ[0]? = some (some v)) (hi : ItemIn H i v) (ho : Okx xs B false i) : EvP (tTup (tCons (tC (.str "abs")) (tCons (tVar 0) tNil))) σ H (ItP xs B (i.dep + 1) (i.gd + 3)) :=
  evp_imp (evp_fix (eva_c (eva_v hv eva_nil)) (Nat.le_of_ble_eq_true rfl)) fun x H' s ⟨p, e, h⟩ => ⟨.un "abs" i, false, by rw [e]; exact .un h (hi.mono (Tp.same s)), .abs ho, by rw [It.dep]; omega, by rw [It.gd]; omega⟩
theorem p_not (hv : σ[0]? = some (some v)) (hi : ItemIn H i v) (ho : Okx xs B true i) : EvP (tTup (tCons (tC (.str "not")) (tCons (tVar 0) tNil))) σ H (ItP xs B (i.dep + 1) (i.gd + 3)) :=
  evp_imp (evp_fix (eva_c (eva_v hv eva_nil)) (Nat.le_of_ble_eq_true rfl)) fun x H' s ⟨p, e, h⟩ => ⟨.un "not" i, true, by rw [e]; exact .un h (hi.mono (Tp.same s)), .not ho, by rw [It.dep]; omega, by rw [It.gd]; omega⟩
theorem p_dm {w : Str} {n : Int} (hw : w ∈ (["div", "mod"] : List Str)) (hn : 1 ≤ n ∧ n.natAbs ≤ B + 1) (hv : σ[0]? = some (some v)) (hi : ItemIn H i v) (ho : Okx xs B false i) : EvP (tTup (tCons (tC (.str w)) (tCons (tVar 0) (tCons (tC (.int n)) tNil)))) σ H (ItP xs B (i.dep + 1) (i.gd + 3)) :=
  evp_imp (evp_fix (eva_c (eva_v hv (eva_c eva_nil))) (Nat.le_of_ble_eq_true rfl)) fun x H' s ⟨p, e, h⟩ => ⟨.dm w i n, false, by rw [e]; exact .dm h (hi.mono (Tp.same s)), .dm hw ho (lo_le hn.1) hn.2, by rw [It.dep]; omega, by rw [It.gd]; omega⟩
theorem p_bin {w : Str} {k : Nat} {b : Addr} {ys : List V} (hb : H b = some (.tup ys)) (hys : ys = [v, sv] ∨ ys = [sv, v]) (hσ : σ[k]? = some (some (.ref b))) (hi : ItemIn H i v) (hsi : ItemIn H si sv) (ho : Okx xs B false i) (hso : Okx xs B false si) (hd : si.dep = 1) (hz : si.gd ≤ 1000000)
    (hw : w ∈ (["add", "sub", "mul", "min", "max", "less", "equal"] : List Str)) : EvP (tOp (rCatA K) (tTup (tCons (tC (.str w)) tNil)) (tVar k)) σ H (ItP xs B (i.dep + 1) (i.gd + 3)) := by
  have hp := dep_pos i
  have hl : ys.length = 2 := by rcases hys with e | e <;> rw [e] <;> rfl
  refine evp_imp (evp_wcat hb (by intro h; rw [h] at hl; cases hl) (by omega) hσ) fun x H' s ⟨p, e, h⟩ => ?_
  have hok : ∀ a b, Okx xs B false a → Okx xs B false b → ∃ t, Okx xs B t (.bin w a b) := fun a b ha hb => by
    by_cases h7 : w ∈ (["less", "equal"] : List Str)
    · exact ⟨_, .cmp h7 ha hb⟩
    · refine ⟨_, .bin ?_ ha hb⟩
      simp only [List.mem_cons, List.not_mem_nil, or_false] at hw h7 ⊢
      rcases hw with h | h | h | h | h | h | h
      · exact .inl h
      · exact .inr (.inl h)
      · exact .inr (.inr (.inl h))
      · exact .inr (.inr (.inr (.inl h)))
      · exact .inr (.inr (.inr (.inr h)))
      · exact absurd (.inl h) h7
      · exact absurd (.inr h) h7
  have hi' := hi.mono (Tp.same s)
  have hsi' := hsi.mono (Tp.same s)
  rw [e]
  rcases hys with ey | ey
  · rw [ey] at h
    obtain ⟨t, ht⟩ := hok i si ho hso
    exact ⟨.bin w i si, t, .bin h hi' hsi', ht, by rw [It.dep]; omega, by rw [It.gd]; omega⟩
  · rw [ey] at h
    obtain ⟨t, ht⟩ := hok si i hso ho
    exact ⟨.bin w si i, t, .bin h hsi' hi', ht, by rw [It.dep]; omega, by rw [It.gd]; omega⟩
theorem p_if1 (hv : σ[0]? = some (some v)) (hs : σ[1]? = some (some sv)) (hi : ItemIn H i v) (hsi : ItemIn H si sv) (ho : Okx xs B false i) (hso : Okx xs B false si) (hd : si.dep = 1) (hz : si.gd ≤ 1000000) :
    EvP (tTup (tCons (tC (.str "if")) (tCons (tTup (tCons (tC (.str "true")) tNil)) (tCons (tVar 0) (tCons (tVar 1) tNil))))) σ H (ItP xs B (i.dep + 1) (i.gd + 3)) := by
  have hp := dep_pos i
  refine evp_imp (evp_tup (eva_cons evp_c mo_eq (eva_cons (evp_fix (eva_c eva_nil) (Nat.le_of_ble_eq_true rfl)) mo_tup (eva_v hv (eva_v hs eva_nil)))) (moa_cons mo_eq (moa_cons mo_tup moa_eq)) ?_) ?_
  · rintro vs H' ⟨_, _, rfl, _, _, _, rfl, _, rfl⟩
    exact Nat.le_of_ble_eq_true rfl
  · rintro x H' s ⟨p, _, rfl, h, _, _, rfl, rfl, _, _, rfl, ⟨p2, rfl, h2⟩, rfl⟩
    refine ⟨.tri (.lit true) i si, false, .tri h (.lit h2) (hi.mono (Tp.same s)) (hsi.mono (Tp.same s)), .tri .lit ho hso, ?_, ?_⟩
    · simp only [It.dep]; omega
    · simp only [It.gd]; omega
theorem p_if2 (hv : σ[0]? = some (some v)) (hs : σ[1]? = some (some sv)) (hi : ItemIn H i v) (hsi : ItemIn H si sv) (ho : Okx xs B false i) (hso : Okx xs B false si) (hd : si.dep = 1) (hz : si.gd ≤ 1000000) :
    EvP (tTup (tCons (tC (.str "if")) (tCons (tTup (tCons (tC (.str "false")) tNil)) (tCons (tVar 1) (tCons (tVar 0) tNil))))) σ H (ItP xs B (i.dep + 1) (i.gd + 3)) := by
  have hp := dep_pos i
  refine evp_imp (evp_tup (eva_cons evp_c mo_eq (eva_cons (evp_fix (eva_c eva_nil) (Nat.le_of_ble_eq_true rfl)) mo_tup (eva_v hs (eva_v hv eva_nil)))) (moa_cons mo_eq (moa_cons mo_tup moa_eq)) ?_) ?_
  · rintro vs H' ⟨_, _, rfl, _, _, _, rfl, _, rfl⟩
    exact Nat.le_of_ble_eq_true rfl
  · rintro x H' s ⟨p, _, rfl, h, _, _, rfl, rfl, _, _, rfl, ⟨p2, rfl, h2⟩, rfl⟩
    refine ⟨.tri (.lit false) si i, false, .tri h (.lit h2) (hsi.mono (Tp.same s)) (hi.mono (Tp.same s)), .tri .lit hso ho, ?_, ?_⟩
    · simp only [It.dep]; omega
    · simp only [It.gd]; omega
theorem p_if3 (hv : σ[0]? = some (some v)) (hs : σ[1]? = some (some sv)) (hi : ItemIn H i v) (hsi : ItemIn H si sv) (ho : Okx xs B true i) (hso : Okx xs B false si) (hd : si.dep = 1) (hz : si.gd ≤ 1000000) :
    EvP (tTup (tCons (tC (.str "if")) (tCons (tVar 0) (tCons (tVar 1) (tCons (tVar 1) tNil))))) σ H (ItP xs B (i.dep + 1) (i.gd + 3)) :=
  have hp := dep_pos i
  evp_imp (evp_fix (eva_c (eva_v hv (eva_v hs (eva_v hs eva_nil)))) (Nat.le_of_ble_eq_true rfl)) fun x H' s ⟨p, e, h⟩ => ⟨.tri i si si, false, by rw [e]; exact .tri h (hi.mono (Tp.same s)) (hsi.mono (Tp.same s)) (hsi.mono (Tp.same s)), .tri ho hso hso, by rw [It.dep]; omega, by rw [It.gd]; omega⟩
/-- the parts of a group -/
def GrP (xs : List Str) (B N D S : Nat) : V → Hp → Prop := fun x H => ∃ p ys l, x = .ref p ∧ H p = some (.tup ys) ∧ Kids H l ys ∧ (∀ j ∈ l, Okx xs B true j) ∧ depL l = D ∧ gdL l ≤ S ∧ l.length ≤ N
theorem grp_mo {N D S : Nat} : Mo (GrP xs B N D S) := fun _ _ _ s ⟨p, ys, l, e, h, k, r⟩ => ⟨p, ys, l, e, s _ _ h, k.mono (Tp.same s), r⟩
theorem p_parts1 (hv : σ[0]? = some (some v)) (hi : ItemIn H i v) (ho : Okx xs B true i) : EvP (tTup (tCons (tVar 0) (tCons (tTup (tCons (tC (.str "true")) tNil)) tNil))) σ H (GrP xs B 2 i.dep (i.gd + 1)) := by
  have hp := dep_pos i
  refine evp_imp (evp_tup (eva_cons (evp_v hv) mo_eq (eva_cons (evp_fix (eva_c eva_nil) (Nat.le_of_ble_eq_true rfl)) mo_tup eva_nil)) (moa_cons mo_eq (moa_cons mo_tup moa_eq)) ?_) ?_
  · rintro vs H' ⟨_, _, rfl, _, _, _, rfl, _, rfl⟩
    exact Nat.le_of_ble_eq_true rfl
  · rintro x H' s ⟨p, _, rfl, h, _, _, rfl, rfl, _, _, rfl, ⟨p2, rfl, h2⟩, rfl⟩
    refine ⟨p, _, [i, .lit true], rfl, h, .cons (hi.mono (Tp.same s)) (kids1 (.lit h2)), ?_, ?_, ?_, Nat.le_refl 2⟩
    · intro j hj
      simp only [List.mem_cons, List.not_mem_nil, or_false] at hj
      rcases hj with e | e <;> rw [e]
      · exact ho
      · exact .lit
    · simp only [depL, It.dep]; omega
    · simp only [gdL, It.gd]; omega
theorem p_parts2 (hv : σ[0]? = some (some v)) (hi : ItemIn H i v) (ho : Okx xs B true i) : EvP (tTup (tCons (tTup (tCons (tC (.str "false")) tNil)) (tCons (tVar 0) tNil))) σ H (GrP xs B 2 i.dep (i.gd + 1)) := by
  have hp := dep_pos i
  refine evp_imp (evp_tup (eva_cons (evp_fix (eva_c eva_nil) (Nat.le_of_ble_eq_true rfl)) mo_tup (eva_v hv eva_nil)) (moa_cons mo_tup moa_eq) ?_) ?_
  · rintro vs H' ⟨_, _, rfl, _, rfl⟩
    exact Nat.le_of_ble_eq_true rfl
  · rintro x H' s ⟨p, _, rfl, h, _, _, rfl, ⟨p2, rfl, h2⟩, rfl⟩
    refine ⟨p, _, [.lit false, i], rfl, h, .cons (.lit h2) (kids1 (hi.mono (Tp.same s))), ?_, ?_, ?_, Nat.le_refl 2⟩
    · intro j hj
      simp only [List.mem_cons, List.not_mem_nil, or_false] at hj
      rcases hj with e | e <;> rw [e]
      · exact .lit
      · exact ho
    · simp only [depL, It.dep]; omega
    · simp only [gdL, It.gd]; omega
theorem p_grp {w : Str} {k : Nat} {gv : V} {D S : Nat} (hw : w ∈ (["all", "any"] : List Str)) (hg : GrP xs B 3 D S gv H) (hσ : σ[k]? = some (some gv)) : EvP (tTup (tCons (tC (.str w)) (tCons (tVar k) tNil))) σ H (ItP xs B (D + 1) (S + 1)) := by
  obtain ⟨b, ys, l, rfl, hb, hk, hok, hd, hs, h3⟩ := hg
  refine evp_imp (evp_fix (eva_c (eva_v hσ eva_nil)) (Nat.le_of_ble_eq_true rfl)) fun x H' s ⟨p, e, h⟩ => ⟨.grp w l, true, ?_, .grp hw (by omega) hok, by rw [It.dep]; omega, by rw [It.gd]; omega⟩
  have hk' := hk.mono (Tp.same s)
  rw [e]
  exact .grp h (s _ _ hb) hk'.1 hk'.2
theorem itp_le {D S S' : Nat} {x : V} (h : ItP xs B D S x H) (hs : S ≤ S') : ItP xs B D S' x H := by
  obtain ⟨i, b, a, c, d, e⟩ := h
  exact ⟨i, b, a, c, d, Nat.le_trans e hs⟩
/-- the two orders of an item and its side -/
def BothP (v sv : V) : V → Hp → Prop := fun x H => ∃ p ys, x = .ref p ∧ H p = some (.tup ys) ∧ (ys = [v, sv] ∨ ys = [sv, v])
theorem both_mo : Mo (BothP v sv) := fun _ _ _ s ⟨p, ys, e, h, r⟩ => ⟨p, ys, e, s _ _ h, r⟩
theorem p_both (hv : σ[0]? = some (some v)) (hs : σ[1]? = some (some sv)) : EvP (tLst (tCons (tTup (tCons (tVar 0) (tCons (tVar 1) tNil))) (tCons (tTup (tCons (tVar 1) (tCons (tVar 0) tNil))) tNil))) σ H (fun v' H' => ∃ p ys, v' = .ref p ∧ H' p = some (.lst ys) ∧ All 2 (BothP v sv) ys H' ∧ H p = none) :=
  evp_lst (eva_all both_mo (evp_imp (evp_fix (eva_v hv (eva_v hs eva_nil)) (Nat.le_of_ble_eq_true rfl)) fun x H' _ ⟨p, e, h⟩ => ⟨p, _, e, h, .inl rfl⟩)
    (eva_all both_mo (evp_imp (evp_fix (eva_v hs (eva_v hv eva_nil)) (Nat.le_of_ble_eq_true rfl)) fun x H' _ ⟨p, e, h⟩ => ⟨p, _, e, h, .inr rfl⟩) eva_all0)) (all_mo both_mo) fun vs H' h => by rw [h.1]; exact (Nat.le_of_ble_eq_true rfl)
end
section
variable {P : Program} {w : World} {K : PySem.W.Frag} {mg : Str → Option Value} {base : Heap}
/-! ### _law_around -/
def spAround : Sp := fun vs H Q _ => ∃ (v sv : V) (i si : It) (xs : List Str) (B : Nat) (b : Bool) (m t : Int), vs = [v, sv, .int m, .int t] ∧ ItemIn H i v ∧ Okx xs B b i ∧ ItemIn H si sv ∧ Okx xs B false si ∧ si.dep = 1 ∧ si.gd ≤ 1000000 ∧ 100 ≤ B ∧ -1000 ≤ m ∧ m ≤ 1000 ∧
  ∀ v' i' b' H', Same H H' → ItemIn H' i' v' → Okx xs B b' i' → i'.dep = i.dep + m.toNat → i'.gd ≤ i.gd + 5 * m.toNat → Q v' H'
theorem ok_law_around (T : Txt K mg) : FnOk P w K mg base CX0 2 T.a_law_around T.d_law_around P_law_around spAround := by
  have G_law_is_test := ok_law_is_test (P := P) (w := w) (base := base) T
  refine T.F_law_around.ok sc_law_around (fun vs H Q E h => ?_) (fun cdv A outer s H vs Q E hr h => ?_)
  · obtain ⟨v, sv, i, si, xs, B, b, m, t, rfl, _⟩ := h
    rfl
  obtain ⟨v, sv, i, si, xs, B, b, m, t, rfl, hi, ho, hsi, hso, hsd, hsz, hB, m0, m1, q⟩ := h
  refine ⟨_, (pss_cons (ps_for PassesOwn.never rfl (pi_range1 (by rfl) T.z_range (pa_cons (pv 2) pa_nil)) (pg_name (i := 4) sc_law_around.nd rfl (Or.inl rfl))
    (pss_cons (ps_set (i := 5) sc_law_around.nd rfl (Or.inl rfl) (pe_ix ix_list (pe_lst (pa_cons (pe_tup (pa_cons (pv 0) (pa_cons (pv 1) pa_nil))) (pa_cons (pe_tup (pa_cons (pv 1) (pa_cons (pv 0) pa_nil))) pa_nil))) (pe_op op_mod (pe_callTy call_int1 (by rfl) T.z_int (by decide +kernel) (pa_cons (pe_op op_add (pe_op op_fdiv (pv 3) pe_int) (pv 4)) pa_nil)) pe_int) (fun _ _ => rfl)))
    (pss_one (ps_if (pt_val (pe_call G_law_is_test (hr.mono (by omega)) (by rfl) T.m_law_is_test T.F_law_is_test.kp T.b_law_is_test .nil pass0 (pa_cons (pv 0) pa_nil)))
    (pss_cons (ps_set (i := 6) sc_law_around.nd rfl (Or.inl rfl) (pe_ix ix_list (pe_lst (pa_cons (pe_tup (pa_cons (pv 0) (pa_cons (pe_tup (pa_cons pe_str pa_nil)) pa_nil))) (pa_cons (pe_tup (pa_cons (pe_tup (pa_cons pe_str pa_nil)) (pa_cons (pv 0) pa_nil))) pa_nil))) (pe_op op_mod (pe_callTy call_int1 (by rfl) T.z_int (by decide +kernel) (pa_cons (pe_op op_add (pe_op op_fdiv (pv 3) pe_int) (pv 4)) pa_nil)) pe_int) (fun _ _ => rfl)))
    (C8.pss_cut (ps_if (pt_cmpR op_lt (pv 2) pe_int (nomark _))
    (pss_one (ps_set (i := 6) sc_law_around.nd rfl (Or.inl rfl) (pe_op op_catA (pe_tup (pa_cons (pe_tup (pa_cons pe_str pa_nil)) pa_nil)) (pv 6))))
    pss_nil)
    (pss_one (ps_set (i := 0) sc_law_around.nd rfl (Or.inl rfl) (pe_ix ix_list (pe_lst (pa_cons (pe_tup (pa_cons pe_str (pa_cons (pv 0) pa_nil))) (pa_cons (pe_tup (pa_cons pe_str (pa_cons (pv 6) pa_nil))) (pa_cons (pe_tup (pa_cons pe_str (pa_cons (pv 6) pa_nil))) (pa_cons (pe_tup (pa_cons pe_str (pa_cons (pv 0) (pa_cons (pv 1) (pa_cons (pv 1) pa_nil))))) pa_nil))))) (pe_op op_mod (pe_callTy call_int1 (by rfl) T.z_int (by decide +kernel) (pa_cons (pe_op op_add (pv 3) (pv 4)) pa_nil)) pe_int) (fun _ _ => rfl))))))
    (pss_cons (ps_set (i := 7) sc_law_around.nd rfl (Or.inl rfl) (pe_lst (pa_cons (pe_tup (pa_cons pe_str (pa_cons (pv 0) pa_nil))) (pa_cons (pe_op op_catA (pe_tup (pa_cons pe_str pa_nil)) (pv 5)) (pa_cons (pe_op op_catA (pe_tup (pa_cons pe_str pa_nil)) (pv 5)) (pa_cons (pe_op op_catA (pe_tup (pa_cons pe_str pa_nil)) (pv 5)) (pa_cons (pe_op op_catA (pe_tup (pa_cons pe_str pa_nil)) (pv 5)) (pa_cons (pe_op op_catA (pe_tup (pa_cons pe_str pa_nil)) (pv 5)) pa_nil))))))))
    (pss_cons (ps_set (i := 7) sc_law_around.nd rfl (Or.inl rfl) (pe_op op_cat (pv 7) (pe_lst (pa_cons (pe_tup (pa_cons pe_str (pa_cons (pv 0) (pa_cons pe_int pa_nil)))) (pa_cons (pe_tup (pa_cons pe_str (pa_cons (pv 0) (pa_cons pe_int pa_nil)))) (pa_cons (pe_tup (pa_cons pe_str (pa_cons (pe_tup (pa_cons pe_str pa_nil)) (pa_cons (pv 0) (pa_cons (pv 1) pa_nil))))) pa_nil))))))
    (pss_cons (ps_set (i := 7) sc_law_around.nd rfl (Or.inl rfl) (pe_op op_cat (pv 7) (pe_lst (pa_cons (pe_tup (pa_cons pe_str (pa_cons (pe_tup (pa_cons pe_str pa_nil)) (pa_cons (pv 1) (pa_cons (pv 0) pa_nil))))) (pa_cons (pe_op op_catA (pe_tup (pa_cons pe_str pa_nil)) (pv 5)) (pa_cons (pe_op op_catA (pe_tup (pa_cons pe_str pa_nil)) (pv 5)) pa_nil))))))
    (pss_one (ps_set (i := 0) sc_law_around.nd rfl (Or.inl rfl) (pe_ix ix_list (pv 7) (pe_op op_mod (pe_callTy call_int1 (by rfl) T.z_int (by decide +kernel) (pa_cons (pe_op op_add (pv 3) (pe_op op_mul (pv 4) pe_int)) pa_nil)) pe_int) (fun _ _ => rfl)))))))))))
    (pss_one (ps_ret (pv 0)))), ?_⟩
  refine ⟨_, rfl, m, rfl, by omega, by omega, for_range (lo := 0) (n := m.toNat) (fun (j : Nat) (σ : L2.St) (H' : Hp) => ∃ (v : V) (i' : It) (b' : Bool) (y1 y2 y3 y4 : Option V), σ = [some v, some sv, some (.int m), some (.int t), y1, y2, y3, y4] ∧ Same H H' ∧ ItemIn H' i' v ∧ Okx xs B b' i' ∧ i'.dep = i.dep + j ∧ i'.gd ≤ i.gd + 5 * j) ?_ ?_ ?_⟩
  · exact ⟨v, i, b, none, none, none, none, rfl, Same.refl H, hi, ho, rfl, Nat.le_refl _⟩
  · rintro j σ H1 hj ⟨v, i', b', y1, y2, y3, y4, rfl, s1, hi', ho', hd', hz'⟩
    -- both
    refine gn (r_seq (r_asg (r_op ?_)))
    refine p_both (v := v) (sv := sv) (σ := [some v, some sv, some (.int m), some (.int t), some (.int (0 + (j : Int))), y2, y3, y4]) rfl rfl H1 (Same.refl H1) _ fun u H2 s2 hu => ?_
    obtain ⟨p, ys, rfl, e2, ⟨yl, yall⟩, _⟩ := hu
    have two := fun z : Int => (⟨Int.emod_nonneg z (by decide : (2 : Int) ≠ 0), Int.emod_lt_of_pos z (by decide)⟩ : 0 ≤ z % 2 ∧ z % 2 < 2)
    obtain ⟨bv, hbv, hbm⟩ := atI_mem (xs := ys) (two (t / 12 + (0 + (j : Int)))).1 (by rw [yl]; exact (two _).2)
    refine ⟨_, rfl, _, _, rfl, rfl, ⟨by decide, by decide⟩, _, rfl, _, _, rfl, rfl, .inl ⟨_, rfl, _, _, rfl, rfl, (by show (0 : Int) < 2; decide), _, _, _, _, rfl, rfl, sqd e2, hbv, ?_⟩⟩
    obtain ⟨bp, bys, rfl, ebp, hbys⟩ := yall bv hbm
    have hsi2 := hsi.mono (Tp.same (s1.trans s2))
    have hi2 := hi'.mono (Tp.same s2)
    refine ⟨_, rfl, v, i', xs, B, b', rfl, hi2, ho', fun H3 s3 => ⟨b', rfl, ?_⟩⟩
    have hi3 := hi2.mono (Tp.same s3)
    have hsi3 := hsi2.mono (Tp.same s3)
    cases b' with
    | true =>
      refine iteT ?_
      -- parts
      refine r_seq (r_asg (r_op ?_))
      refine (evp_lst (σ := [some v, some sv, some (.int m), some (.int t), some (.int (0 + (j : Int))), some (.ref bp), y3, y4]) (eva_all grp_mo (p_parts1 rfl hi3 ho') (eva_all grp_mo (p_parts2 rfl hi3 ho') eva_all0)) (all_mo grp_mo) fun vs H' h => by rw [h.1]; exact (Nat.le_of_ble_eq_true rfl)) H3 (Same.refl H3) _ fun u H4 s4 hu => ?_
      obtain ⟨p4, ys4, rfl, e4, ⟨yl4, yall4⟩, _⟩ := hu
      obtain ⟨gv, hgv, hgm⟩ := atI_mem (xs := ys4) (two (t / 12 + (0 + (j : Int)))).1 (by rw [yl4]; exact (two _).2)
      refine ⟨_, rfl, _, _, rfl, rfl, ⟨by decide, by decide⟩, _, rfl, _, _, rfl, rfl, .inl ⟨_, rfl, _, _, rfl, rfl, (by show (0 : Int) < 2; decide), _, _, _, _, rfl, rfl, sqd e4, hgv, ?_⟩⟩
      obtain ⟨gb, gys, gl, rfl, eg, hk, hok, hgd, hgs, hgl⟩ := yall4 gv hgm
      have hp := dep_pos i'
      refine ⟨fun σ H5 => ∃ gv, σ = [some v, some sv, some (.int m), some (.int t), some (.int (0 + (j : Int))), some (.ref bp), some gv, y4] ∧ Same H4 H5 ∧ GrP xs B 3 i'.dep (i'.gd + 2) gv H5, ?_, ?_⟩
      · refine ⟨_, rfl, _, _, rfl, rfl, _, rfl, ?_⟩
        refine ite2 (fun c => ?_) (fun c => ?_)
        · refine ⟨(Nat.le_of_ble_eq_true rfl), fun p5 hp5 => ⟨(Nat.le_of_ble_eq_true rfl), fun p6 hp6 => ⟨_, rfl, p6, gb, _, _, rfl, rfl, sqt upd_same, sqt (((same_new hp5 _).trans (same_new hp6 _)) _ _ eg), ?_, (fun h => by cases h), (fun _ h => ?_), fun _ _ p7 hp7 => ?_⟩⟩⟩
          · rw [List.length_singleton, hk.1]
            exact Nat.le_of_lt (small1000 (by omega))
          · have h0 := hk.1
            rw [h] at h0
            have : gl = [] := List.length_eq_zero_iff.mp h0.symm
            rw [this] at hgd
            simp only [depL] at hgd
            omega
          · have s56 := fun o => ((same_new hp5 _).trans (same_new hp6 _)).trans (same_new hp7 o)
            have n56 : p5 ≠ p6 := ne_of_none upd_same hp6
            have n57 : p5 ≠ p7 := ne_of_none (by rw [upd_ne n56]; exact upd_same) hp7
            refine ⟨_, rfl, s56 _, p7, _, .lit true :: gl, rfl, upd_same, .cons (.lit (by rw [upd_ne n57, upd_ne n56]; exact upd_same)) (hk.mono (Tp.same (s56 _))), ?_, ?_, ?_, ?_⟩
            · intro z hz
              rcases List.mem_cons.mp hz with e | e
              · rw [e]; exact .lit
              · exact hok z e
            · simp only [depL, It.dep]; omega
            · simp only [gdL, It.gd]; omega
            · rw [List.length_cons]; omega
        · exact ⟨_, rfl, Same.refl H4, gb, gys, gl, rfl, eg, hk, hok, hgd, by omega, by omega⟩
      · rintro σ5 H5 ⟨gv, rfl, s5, hg⟩
        have s35 := s4.trans s5
        have hi5 := hi3.mono (Tp.same s35)
        have hsi5 := hsi3.mono (Tp.same s35)
        refine r_asg (r_op ?_)
        refine (evp_lst (σ := [some v, some sv, some (.int m), some (.int t), some (.int (0 + (j : Int))), some (.ref bp), some gv, y4]) (eva_all itp_mo (p_not rfl hi5 ho') (eva_all itp_mo (p_grp (w := "all") (by decide +kernel) hg rfl) (eva_all itp_mo (p_grp (w := "any") (by decide +kernel) hg rfl) (eva_all itp_mo (p_if3 rfl rfl hi5 hsi5 ho' hso hsd hsz) eva_all0)))) (all_mo itp_mo) fun vs H' h => by rw [h.1]; exact (Nat.le_of_ble_eq_true rfl)) H5 (Same.refl H5) _ fun u H6 s6 hu => ?_
        obtain ⟨p6, ys6, rfl, e6, ⟨yl6, yall6⟩, _⟩ := hu
        obtain ⟨nv, hnv, hnm⟩ := atI_mem (xs := ys6) (Int.emod_nonneg (t + (0 + (j : Int))) (by decide : (4 : Int) ≠ 0)) (by rw [yl6]; exact Int.emod_lt_of_pos _ (by decide))
        refine ⟨_, rfl, _, rfl, _, _, rfl, rfl, .inl ⟨_, rfl, _, _, rfl, rfl, (by show (0 : Int) < 4; decide), _, _, _, _, rfl, rfl, sqd e6, hnv, ?_⟩⟩
        obtain ⟨i2, b2, h1, h2, h3, h4⟩ := yall6 nv hnm
        exact ⟨nv, i2, b2, _, _, _, _, rfl, s1.trans (s2.trans (s3.trans (s35.trans s6))), h1, h2, by omega, by omega⟩
    | false =>
      refine iteF ?_
      have bn := fun (w : Str) (H' : Hp) (s' : Same H3 H') (y3 y4 : Option V) (hw : w ∈ (["add", "sub", "mul", "min", "max", "less", "equal"] : List Str)) => p_bin (K := K) (σ := [some v, some sv, some (.int m), some (.int t), some (.int (0 + (j : Int))), some (.ref bp), y3, y4]) (k := 5) (H := H') (s' _ _ (s3 _ _ ebp)) hbys rfl (hi3.mono (Tp.same s')) (hsi3.mono (Tp.same s')) ho' hso hsd hsz hw
      have r3 := Same.refl H3
      refine r_seq (r_asg ?_)
      refine (evp_lst (σ := [some v, some sv, some (.int m), some (.int t), some (.int (0 + (j : Int))), some (.ref bp), y3, y4]) (eva_all itp_mo (p_abs rfl hi3 ho') (eva_all itp_mo (bn "add" H3 r3 y3 y4 (by decide +kernel)) (eva_all itp_mo (bn "sub" H3 r3 y3 y4 (by decide +kernel)) (eva_all itp_mo (bn "mul" H3 r3 y3 y4 (by decide +kernel)) (eva_all itp_mo (bn "min" H3 r3 y3 y4 (by decide +kernel)) (eva_all itp_mo (bn "max" H3 r3 y3 y4 (by decide +kernel)) eva_all0)))))) (all_mo itp_mo) fun vs H' h => by rw [h.1]; exact (Nat.le_of_ble_eq_true rfl)) H3 r3 _ fun u H4 s4 hu => ?_
      obtain ⟨p4, ys4, rfl, e4, ⟨yl4, yall4⟩, _⟩ := hu
      have hi4 := hi3.mono (Tp.same s4)
      have hsi4 := hsi3.mono (Tp.same s4)
      refine ⟨_, rfl, ?_⟩
      refine (evp_lst (σ := [some v, some sv, some (.int m), some (.int t), some (.int (0 + (j : Int))), some (.ref bp), y3, some (.ref p4)]) (eva_all itp_mo (p_dm (w := "div") (by decide +kernel) (by omega) rfl hi4 ho') (eva_all itp_mo (p_dm (w := "mod") (by decide +kernel) (by omega) rfl hi4 ho') (eva_all itp_mo (p_if1 rfl rfl hi4 hsi4 ho' hso hsd hsz) eva_all0))) (all_mo itp_mo) fun vs H' h => by rw [h.1]; exact (Nat.le_of_ble_eq_true rfl)) H4 (Same.refl H4) _ fun u H5 s5 hu => ?_
      obtain ⟨p5, ys5, rfl, e5, ⟨yl5, yall5⟩, _⟩ := hu
      refine ⟨p4, p5, ys4, ys5, rfl, rfl, s5 _ _ e4, e5, by rw [yl4, yl5]; exact (Nat.le_of_ble_eq_true rfl), fun p6 hp6 => ?_⟩
      have s36 := fun o => (s4.trans s5).trans (same_new hp6 o)
      refine ⟨_, rfl, ?_⟩
      refine (evp_lst (σ := [some v, some sv, some (.int m), some (.int t), some (.int (0 + (j : Int))), some (.ref bp), y3, some (.ref p6)]) (eva_all itp_mo (p_if2 rfl rfl (hi3.mono (Tp.same (s36 _))) (hsi3.mono (Tp.same (s36 _))) ho' hso hsd hsz) (eva_all itp_mo (bn "less" _ (s36 _) _ _ (by decide +kernel)) (eva_all itp_mo (bn "equal" _ (s36 _) _ _ (by decide +kernel)) eva_all0))) (all_mo itp_mo) fun vs H' h => by rw [h.1]; exact (Nat.le_of_ble_eq_true rfl)) _ (Same.refl _) _ fun u H7 s7 hu => ?_
      obtain ⟨p7, ys7, rfl, e7, ⟨yl7, yall7⟩, _⟩ := hu
      refine ⟨p6, p7, ys4 ++ ys5, ys7, rfl, rfl, s7 _ _ upd_same, e7, by rw [List.length_append, yl4, yl5, yl7]; exact (Nat.le_of_ble_eq_true rfl), fun p8 hp8 => ?_⟩
      have s8 := fun o => s7.trans (same_new hp8 o)
      have hl12 : ((ys4 ++ ys5) ++ ys7).length = 12 := by rw [List.length_append, List.length_append, yl4, yl5, yl7]
      obtain ⟨nv, hnv, hnm⟩ := atI_mem (xs := (ys4 ++ ys5) ++ ys7) (Int.emod_nonneg (t + (0 + (j : Int)) * 5) (by decide : (12 : Int) ≠ 0)) (by rw [hl12]; exact Int.emod_lt_of_pos _ (by decide))
      refine ⟨_, rfl, _, rfl, _, rfl, _, _, rfl, rfl, .inr ⟨by decide, by decide⟩, _, _, rfl, rfl, .inl ⟨_, rfl, _, _, rfl, rfl, (by show (0 : Int) < 12; decide), _, _, _, _, rfl, rfl, sqd upd_same, hnv, ?_⟩⟩
      have hnp : ∀ o, ItP xs B (i'.dep + 1) (i'.gd + 3) nv (upd H7 p8 o) := fun o => by
        rcases List.mem_append.mp hnm with h | h
        · rcases List.mem_append.mp h with h | h
          · exact itp_mo _ _ _ ((s5.trans (same_new hp6 _)).trans (s8 _)) (yall4 nv h)
          · exact itp_mo _ _ _ ((same_new hp6 _).trans (s8 _)) (yall5 nv h)
        · exact itp_mo _ _ _ (same_new hp8 _) (yall7 nv h)
      obtain ⟨i2, b2, h1, h2, h3, h4⟩ := hnp _
      exact ⟨nv, i2, b2, _, _, _, _, rfl, s1.trans (s2.trans (s3.trans ((s36 _).trans (s8 _)))), h1, h2, by omega, by omega⟩
  · rintro σ H1 ⟨v, i', b', y1, y2, y3, y4, rfl, s1, hi', ho', hd', hz'⟩
    exact ⟨_, rfl, q v i' b' H1 s1 hi' ho' hd' hz'⟩
end
end NL

namespace NL
open PySem PySem.Spec PyProof.Rows L2
/-! ### the written form, and its tokens -/
/-- what a name in a text is at least -/
structure Nw (z : Str) : Prop where
  wd : Wd z
  len : z.length ≤ 250
theorem Nam.nw {z : Str} (h : Nam z) : Nw z := ⟨h.wd, by have := h.len; omega⟩
def itxt (n : Int) : Str := Str.ofString (toString n)
mutual
def It.wr : It → Str
  | .num n => itxt n
  | .name x => x
  | .lit b => bstr b
  | .un w a => w ++ "(" ++ Str.join ", " [a.wr] ++ ")"
  | .dm w a n => w ++ "(" ++ Str.join ", " [a.wr, itxt n] ++ ")"
  | .bin w a b => w ++ "(" ++ Str.join ", " [a.wr, b.wr] ++ ")"
  | .tri a b c => "if" ++ "(" ++ Str.join ", " [a.wr, b.wr, c.wr] ++ ")"
  | .grp w l => w ++ "(" ++ Str.join ", " (wrL l) ++ ")"
def wrL : List It → List Str
  | [] => []
  | a :: r => a.wr :: wrL r
end
theorem wrL_map : ∀ l : List It, wrL l = l.map It.wr
  | [] => by rw [wrL]; rfl
  | a :: r => by rw [wrL, wrL_map r]; rfl
/-- rows of tokens with a comma between two of them -/
def sepF : List (List Str) → List Str
  | [] => []
  | a :: r => a ++ r.flatMap fun t => ("," : Str) :: t
theorem sepF_snoc (l : List (List Str)) (t : List Str) : sepF (l ++ [t]) = sepF l ++ (if l = [] then ([] : List Str) else [","]) ++ t := by
  cases l with
  | nil => simp [sepF]
  | cons a r => simp [sepF, List.flatMap_append]
mutual
def It.tk : It → List Str
  | .num n => [itxt n]
  | .name x => [x]
  | .lit b => [bstr b]
  | .un w a => ([w, "("] : List Str) ++ sepF [a.tk] ++ ([")"] : List Str)
  | .dm w a n => ([w, "("] : List Str) ++ sepF [a.tk] ++ ([",", itxt n] : List Str) ++ ([")"] : List Str)
  | .bin w a b => ([w, "("] : List Str) ++ sepF [a.tk, b.tk] ++ ([")"] : List Str)
  | .tri a b c => (["if", "("] : List Str) ++ sepF [a.tk, b.tk, c.tk] ++ ([")"] : List Str)
  | .grp w l => ([w, "("] : List Str) ++ sepF (tkL l) ++ ([")"] : List Str)
def tkL : List It → List (List Str)
  | [] => []
  | a :: r => a.tk :: tkL r
end
theorem tkL_map : ∀ l : List It, tkL l = l.map It.tk
  | [] => by rw [tkL]; rfl
  | a :: r => by rw [tkL, tkL_map r]; rfl
/-- behind the parts: the divisor -/
def It.tailT : It → List Str
  | .dm _ _ n => [",", itxt n]
  | _ => []
def It.tailW : It → List Str
  | .dm _ _ n => [itxt n]
  | _ => []
theorem tk_eq {i : It} (h : i.cls ≠ 0) : i.tk = ([i.word, "("] : List Str) ++ sepF (i.kids.map It.tk) ++ i.tailT ++ ([")"] : List Str) := by
  cases i with
  | num _ => exact absurd rfl h
  | name _ => exact absurd rfl h
  | lit _ => exact absurd rfl h
  | un w a => rw [It.tk]; simp [It.word, It.kids, It.tailT]
  | dm w a n => rw [It.tk]; simp [It.word, It.kids, It.tailT]
  | bin w a b => rw [It.tk]; simp [It.word, It.kids, It.tailT]
  | tri a b c => rw [It.tk]; simp [It.word, It.kids, It.tailT]
  | grp w l => rw [It.tk, tkL_map]; simp [It.word, It.kids, It.tailT]
theorem wr_eq {i : It} (h : i.cls ≠ 0) : i.wr = i.word ++ "(" ++ Str.join ", " (i.kids.map It.wr ++ i.tailW) ++ ")" := by
  cases i with
  | num _ => exact absurd rfl h
  | name _ => exact absurd rfl h
  | lit _ => exact absurd rfl h
  | un w a => rw [It.wr]; simp [It.word, It.kids, It.tailW]
  | dm w a n => rw [It.wr]; simp [It.word, It.kids, It.tailW]
  | bin w a b => rw [It.wr]; simp [It.word, It.kids, It.tailW]
  | tri a b c => rw [It.wr]; simp [It.word, It.kids, It.tailW]
  | grp w l => rw [It.wr, wrL_map]; simp [It.word, It.kids, It.tailW]
/-! ### what the tokens are worth together -/
def sub (t : Str) : Str := if t = "," then ", " else t
/-- the signs of the tokens, each comma with a space -/
def ct (ts : List Str) : List Nat := ts.flatMap fun t => (sub t).cps.toList
theorem ct_app (a b : List Str) : ct (a ++ b) = ct a ++ ct b := List.flatMap_append
theorem ct_cons (a : Str) (b : List Str) : ct (a :: b) = (sub a).cps.toList ++ ct b := rfl
theorem ct_nil : ct [] = [] := rfl
theorem join_codes : ∀ l : List Str, (Str.join "" l).cps.toList = l.flatMap fun t => t.cps.toList
  | [] => rfl
  | [x] => by
    show x.cps.toList = _
    simp
  | x :: y :: r => by
    have e : Str.join "" (x :: y :: r) = x ++ "" ++ Str.join "" (y :: r) := rfl
    rw [e, app_list, app_list, join_codes (y :: r), show ("" : Str).cps.toList = [] by decide +kernel, List.append_nil]
    rfl
theorem ct_join (ts : List Str) : (Str.join "" (ts.map sub)).cps.toList = ct ts := by
  rw [join_codes, List.flatMap_map]
  rfl
theorem sub_ne {t : Str} (h : t ≠ ",") : sub t = t := if_neg h
theorem ct_sep {f : It → List Str} {g : It → Str} : ∀ (l : List It), (∀ i ∈ l, ct (f i) = (g i).cps.toList) → ct (sepF (l.map f)) = (Str.join ", " (l.map g)).cps.toList
  | [], _ => rfl
  | [a], h => by
    show ct (f a ++ []) = (g a).cps.toList
    rw [List.append_nil]
    exact h a List.mem_cons_self
  | a :: b :: r, h => by
    have e : Str.join ", " ((a :: b :: r).map g) = g a ++ ", " ++ Str.join ", " ((b :: r).map g) := rfl
    have ih := ct_sep (b :: r) fun i hi => h i (List.mem_cons_of_mem _ hi)
    have e2 : sepF ((a :: b :: r).map f) = f a ++ ("," : Str) :: sepF ((b :: r).map f) := by
      show f a ++ ((("," : Str) :: f b) ++ _) = _
      rw [List.cons_append]
      rfl
    rw [e, app_list, app_list, e2, ct_app, h a List.mem_cons_self, ct_cons, ih]
    rw [show sub "," = ", " by decide +kernel, List.append_assoc]
theorem itxt_ne (n : Int) : itxt n ≠ "," := fun h => by
  have h44 := int_text_free' 44 ⟨by decide, by decide⟩ n
  have h2 : (44 : Nat) ∈ (itxt n).cps.toList := by rw [h]; decide +kernel
  exact h44 h2
theorem wd_ne {z : Str} (h : Wd z) : z ≠ "," := fun e => by
  rw [e] at h
  exact absurd h (by decide +kernel)
theorem word_wd {xs : List Str} {B : Nat} {b : Bool} {i : It} (h : Okx xs B b i) : Wd i.word ∧ i.word.length ≤ 6 := by
  have g : ∀ z ∈ (["number", "name", "true", "false", "abs", "not", "div", "mod", "add", "sub", "mul", "min", "max", "less", "equal", "if", "all", "any"] : List Str), Wd z ∧ z.length ≤ 6 := by decide +kernel
  refine g _ ?_
  simp only [List.mem_cons, List.not_mem_nil, or_false]
  cases h with
  | num _ => simp [It.word]
  | name _ => simp [It.word]
  | lit => rename_i b; cases b <;> simp [It.word, bstr]
  | abs _ => simp [It.word]
  | not _ => simp [It.word]
  | dm hw _ _ _ =>
    simp only [List.mem_cons, List.not_mem_nil, or_false] at hw
    rcases hw with rfl | rfl <;> simp [It.word]
  | bin hw _ _ =>
    simp only [List.mem_cons, List.not_mem_nil, or_false] at hw
    rcases hw with rfl | rfl | rfl | rfl | rfl <;> simp [It.word]
  | cmp hw _ _ =>
    simp only [List.mem_cons, List.not_mem_nil, or_false] at hw
    rcases hw with rfl | rfl <;> simp [It.word]
  | tri _ _ _ => simp [It.word]
  | grp hw _ _ =>
    simp only [List.mem_cons, List.not_mem_nil, or_false] at hw
    rcases hw with rfl | rfl <;> simp [It.word]
theorem kids_rec {xs : List Str} {B : Nat} {p : It → Prop} (leaf : ∀ b i, Okx xs B b i → i.cls = 0 → p i) (node : ∀ b i, Okx xs B b i → i.cls ≠ 0 → (∀ j ∈ i.kids, p j) → p i) {b : Bool} {i : It} (h : Okx xs B b i) : p i := by
  induction h with
  | num h => exact leaf _ _ (.num h) rfl
  | name h => exact leaf _ _ (.name h) rfl
  | lit => exact leaf _ _ .lit rfl
  | abs h ih =>
    refine node _ _ (.abs h) (by simp [It.cls]) fun j hj => ?_
    simp only [It.kids, List.mem_cons, List.not_mem_nil, or_false] at hj
    rw [hj]; exact ih
  | not h ih =>
    refine node _ _ (.not h) (by simp [It.cls]) fun j hj => ?_
    simp only [It.kids, List.mem_cons, List.not_mem_nil, or_false] at hj
    rw [hj]; exact ih
  | dm hw h h1 h2 ih =>
    refine node _ _ (.dm hw h h1 h2) (by simp [It.cls]) fun j hj => ?_
    simp only [It.kids, List.mem_cons, List.not_mem_nil, or_false] at hj
    rw [hj]; exact ih
  | bin hw h g ih jh =>
    refine node _ _ (.bin hw h g) (by simp [It.cls]) fun j hj => ?_
    simp only [It.kids, List.mem_cons, List.not_mem_nil, or_false] at hj
    rcases hj with e | e <;> rw [e] <;> assumption
  | cmp hw h g ih jh =>
    refine node _ _ (.cmp hw h g) (by simp [It.cls]) fun j hj => ?_
    simp only [It.kids, List.mem_cons, List.not_mem_nil, or_false] at hj
    rcases hj with e | e <;> rw [e] <;> assumption
  | tri h g k ih jh kh =>
    refine node _ _ (.tri h g k) (by simp [It.cls]) fun j hj => ?_
    simp only [It.kids, List.mem_cons, List.not_mem_nil, or_false] at hj
    rcases hj with e | e | e <;> rw [e] <;> assumption
  | grp hw hl h ih => exact node _ _ (.grp hw hl h) (by simp [It.cls]) (fun j hj => ih j hj)
/-- THE EQUATION: the tokens, glued, are the written form -/
theorem ct_tk {xs : List Str} {B : Nat} (hx : ∀ x ∈ xs, Nw x) {b : Bool} {i : It} (h : Okx xs B b i) : ct i.tk = i.wr.cps.toList := by
  refine kids_rec (p := fun i => ct i.tk = i.wr.cps.toList) (fun b i h h0 => ?_) (fun b i h h0 ih => ?_) h
  · cases h with
    | num _ => rw [It.tk, It.wr, ct_cons, ct_nil, List.append_nil, sub_ne (itxt_ne _)]
    | name hm => rw [It.tk, It.wr, ct_cons, ct_nil, List.append_nil, sub_ne (wd_ne (hx _ hm).wd)]
    | lit => rename_i b; cases b <;> (rw [It.tk, It.wr]; decide +kernel)
    | abs _ => cases h0
    | not _ => cases h0
    | dm _ _ _ _ => cases h0
    | bin _ _ _ => cases h0
    | cmp _ _ _ => cases h0
    | tri _ _ _ => cases h0
    | grp _ _ _ => cases h0
  · rw [tk_eq h0, wr_eq h0]
    have hs := ct_sep i.kids ih
    have hw := sub_ne (wd_ne (word_wd h).1)
    have e1 : ct ([i.word, "("] : List Str) = i.word.cps.toList ++ ("(" : Str).cps.toList := by
      rw [ct_cons, ct_cons, ct_nil, List.append_nil, hw, show sub "(" = "(" by decide +kernel]
    have e2 : ct ([")"] : List Str) = (")" : Str).cps.toList := by decide +kernel
    rw [ct_app, ct_app, ct_app, e1, e2, hs, app_list, app_list, app_list]
    congr 1
    rw [List.append_assoc]
    congr 1
    cases i with
    | dm w a n =>
      show (Str.join ", " [a.wr]).cps.toList ++ ct ([",", itxt n] : List Str) = (Str.join ", " [a.wr, itxt n]).cps.toList
      have e3 : Str.join ", " [a.wr, itxt n] = a.wr ++ ", " ++ itxt n := rfl
      have e4 : Str.join ", " [a.wr] = a.wr := rfl
      rw [e3, e4, ct_cons, ct_cons, ct_nil, sub_ne (itxt_ne n), app_list, app_list, show sub "," = ", " by decide +kernel, List.append_nil, List.append_assoc]
    | _ => simp [It.tailT, It.tailW, ct_nil]
/-! ### sizes -/
theorem itxt_len {n : Int} (h : n.natAbs < 10 ^ 61) : (itxt n).length ≤ 62 := by
  have h1 := int_text_length_le10 (by decide : 0 < 61) h
  have h2 : (itxt n).length = (toString n).length := PySem.ofString_length _
  omega
end NL

namespace NL
open PySem PySem.Spec PyProof.Rows L2
theorem sz_eq (i : It) : i.sz = 1 + szL i.kids := by
  cases i <;> simp only [It.sz, It.kids, szL] <;> omega
theorem szL_map (l : List It) : szL l = (l.map It.sz).sum := by
  induction l with
  | nil => rw [szL]; rfl
  | cons a r ih => rw [szL, ih, List.map_cons, List.sum_cons]
theorem join_len (sep : Str) : ∀ l : List Str, (Str.join sep l).length ≤ (l.map fun t => t.length + sep.length).sum
  | [] => Nat.zero_le _
  | [x] => by
    show x.length ≤ x.length + sep.length + 0
    omega
  | x :: y :: r => by
    have e : Str.join sep (x :: y :: r) = x ++ sep ++ Str.join sep (y :: r) := rfl
    have ih := join_len sep (y :: r)
    rw [e, len_app, len_app, List.map_cons, List.sum_cons]
    omega
theorem sum_le {f g : It → Nat} : ∀ l : List It, (∀ i ∈ l, f i ≤ g i) → (l.map f).sum ≤ (l.map g).sum
  | [], _ => Nat.le_refl _
  | a :: r, h => by
    rw [List.map_cons, List.map_cons, List.sum_cons, List.sum_cons]
    have h1 := h a List.mem_cons_self
    have h2 := sum_le r fun i hi => h i (List.mem_cons_of_mem _ hi)
    omega
theorem sum_mul (k : Nat) : ∀ l : List It, (l.map fun i => k * i.sz).sum = k * szL l
  | [] => by rw [szL]; rfl
  | a :: r => by rw [List.map_cons, List.sum_cons, sum_mul k r, szL, Nat.mul_add]
/-- ints of these items have short texts -/
theorem tail_len {xs : List Str} {B : Nat} (hB : B < 10 ^ 60 + 1) {b : Bool} {i : It} (h : Okx xs B b i) : (i.tailW.map fun t => t.length + 2).sum ≤ 64 ∧ i.tailT.length ≤ 2 := by
  cases h with
  | dm hw h h1 h2 =>
    rename_i n
    have hn := itxt_len (n := n) (by have e : (10 : Nat) ^ 61 = 10 * 10 ^ 60 := by decide
                                     omega)
    show (itxt n).length + 2 + 0 ≤ 64 ∧ 2 ≤ 2
    omega
  | _ => exact ⟨Nat.zero_le _, Nat.zero_le _⟩
theorem wr_len {xs : List Str} {B : Nat} (hx : ∀ x ∈ xs, Nw x) (hB : B < 10 ^ 60 + 1) {b : Bool} {i : It} (h : Okx xs B b i) : i.wr.length + 10 ≤ 300 * i.sz ∧ i.tk.length + 2 ≤ 10 * i.sz := by
  refine kids_rec (p := fun i => i.wr.length + 10 ≤ 300 * i.sz ∧ i.tk.length + 2 ≤ 10 * i.sz) (fun b i h h0 => ?_) (fun b i h h0 ih => ?_) h
  · cases h with
    | num hn =>
      rename_i n
      have hn := itxt_len (n := n) (by have e : (10 : Nat) ^ 61 = 10 * 10 ^ 60 := by decide
                                       omega)
      rw [It.wr, It.sz, It.tk, List.length_singleton]
      omega
    | name hm =>
      have := (hx _ hm).len
      rw [It.wr, It.sz, It.tk, List.length_singleton]
      omega
    | lit =>
      rename_i b
      rw [It.wr, It.sz, It.tk, List.length_singleton]
      have : (bstr b).length ≤ 10 := by cases b <;> decide +kernel
      omega
    | abs _ => cases h0
    | not _ => cases h0
    | dm _ _ _ _ => cases h0
    | bin _ _ _ => cases h0
    | cmp _ _ _ => cases h0
    | tri _ _ _ => cases h0
    | grp _ _ _ => cases h0
  · have hw := (word_wd h).2
    obtain ⟨t1, t2⟩ := tail_len hB h
    have hz := sz_eq i
    have l1 : ("(" : Str).length = 1 ∧ (")" : Str).length = 1 ∧ (", " : Str).length = 2 := by decide +kernel
    constructor
    · rw [wr_eq h0, len_app, len_app, len_app]
      have j := join_len ", " (i.kids.map It.wr ++ i.tailW)
      rw [l1.2.2, List.map_append, List.sum_append, List.map_map] at j
      have k := sum_le (f := (fun t : Str => t.length + 2) ∘ It.wr) (g := fun i => 300 * i.sz) i.kids fun i hi => by
        have := (ih i hi).1
        show i.wr.length + 2 ≤ 300 * i.sz
        omega
      rw [sum_mul] at k
      omega
    · rw [tk_eq h0, List.length_append, List.length_append, List.length_append]
      have hs : (sepF (i.kids.map It.tk)).length ≤ (i.kids.map fun i => i.tk.length + 1).sum := by
        cases i.kids with
        | nil => exact Nat.zero_le _
        | cons a r =>
          show (a.tk ++ (r.map It.tk).flatMap _).length ≤ _
          rw [List.length_append, List.length_flatMap, List.map_cons, List.sum_cons, List.map_map]
          have : ((fun a => (("," : Str) :: a).length) ∘ It.tk) = fun i : It => i.tk.length + 1 := rfl
          rw [this]
          omega
      have k := sum_le (f := fun i : It => i.tk.length + 1) (g := fun i => 10 * i.sz) i.kids fun i hi => by
        have := (ih i hi).2
        omega
      rw [sum_mul] at k
      have e1 : ([i.word, "("] : List Str).length = 2 ∧ ([")"] : List Str).length = 1 := ⟨rfl, rfl⟩
      omega
theorem log_ok {n : Int} (h : n.natAbs < 10 ^ 61) : n.natAbs.log2 < 1920 := by
  by_cases h0 : n.natAbs = 0
  · rw [h0]; decide
  · exact (Nat.log2_lt h0).mpr (Nat.lt_of_lt_of_le h (by decide))
end NL

namespace NL
open PySem PySem.Spec PyProof.Rows L2
theorem ItemIn.leaf {H : Hp} {i : It} {a : Addr} (h : ItemIn H i (.ref a)) (h3 : i.cls = 0) :
    (∃ n, i = .num n ∧ H a = some (.tup [.str "number", .int n])) ∨ (∃ x, i = .name x ∧ H a = some (.tup [.str "name", .str x])) ∨ ∃ b, i = .lit b ∧ H a = some (.tup [.str (bstr b)]) := by
  cases h with
  | num e => exact .inl ⟨_, rfl, e⟩
  | name e => exact .inr (.inl ⟨_, rfl, e⟩)
  | lit e => exact .inr (.inr ⟨_, rfl, e⟩)
  | un _ _ => cases h3
  | dm _ _ => cases h3
  | bin _ _ _ => cases h3
  | tri _ _ _ _ => cases h3
  | grp _ _ _ _ => cases h3
theorem strE {a b : Str} : decide (V.str a = V.str b) = decide (a = b) := decide_eq_decide.mpr ⟨V.str.inj, fun h => by rw [h]⟩
/-- an item that is no leaf has another word -/
theorem word_ne {xs : List Str} {B : Nat} {b : Bool} {i : It} (h : Okx xs B b i) (h0 : i.cls ≠ 0) {z : Str} (hz : z ∈ (["number", "name", "true", "false"] : List Str)) : decide (V.str i.word = V.str z) = false := by
  rw [strE]
  have c := (word_cls h).1
  have e : (i.cls == 0) = false := by simpa using h0
  rw [e] at c
  refine decide_eq_false fun q => ?_
  rw [← q] at hz
  exact absurd (show wl i.word _ = true from decide_eq_true hz) (by rw [c]; exact Bool.false_ne_true)
theorem in_divs {i : It} : (i.cls == 2) = true ↔ i.cls = 2 := by simp
section
variable {P : Program} {w : World} {K : PySem.W.Frag} {mg : Str → Option Value} {base : Heap}
/-! ### parts_in -/
def spParts : Sp := fun vs H Q _ => ∃ (v : V) (i : It) (xs : List Str) (B : Nat) (b : Bool), vs = [v] ∧ ItemIn H i v ∧ Okx xs B b i ∧ ∀ p ys H', Same H H' → H' p = some (.tup ys) → Kids H' i.kids ys → Q (.ref p) H'
theorem ok_parts_in (T : Txt K mg) : FnOk P w K mg base CX0 1 T.aparts_in T.dparts_in Pparts_in spParts := by
  refine T.Fparts_in.ok scparts_in (fun vs H Q E h => ?_) (fun cdv A outer s H vs Q E hr h => ?_)
  · obtain ⟨v, i, xs, B, b, rfl, _⟩ := h
    rfl
  obtain ⟨v, i, xs, B, b, rfl, hi, ho, q⟩ := h
  obtain ⟨a, rfl⟩ := hi.ref
  obtain ⟨r, ha⟩ := hi.head
  obtain ⟨c0, cn, ct_, c1, c2⟩ := word_cls ho
  refine ⟨_, (pss_cons (ps_set (i := 1) scparts_in.nd rfl (Or.inl rfl) (pe_ix ix_tup (pv 0) pe_int (fun _ _ => rfl)))
    (pss_cons (ps_if (pt_cmpR op_in_seq (pv 1) (pe_tup (pa_cons pe_str (pa_cons pe_str pa_nil))) (by rfl))
    (pss_one (ps_ret (pe_tup pa_nil)))
    pss_nil)
    (pss_cons (ps_if (pt_cmpR op_in_seq (pv 1) (pe_tup (pa_cons pe_str (pa_cons pe_str pa_nil))) (by rfl))
    (pss_one (ps_ret (pe_slice sl_tup (pv 0) (po_some pe_int) (po_some pe_int))))
    pss_nil)
    (pss_cons (ps_if (pt_cmpR op_in_seq (pv 1) (pe_tup (pa_cons pe_str (pa_cons pe_str pa_nil))) (by rfl))
    (pss_one (ps_ret (pe_ix ix_tup (pv 0) pe_int (fun _ _ => rfl))))
    pss_nil)
    (pss_one (ps_ret (pe_slice sl_tup (pv 0) (po_some pe_int) po_none))))))), ?_⟩
  refine ⟨_, rfl, a, _, 0, _, rfl, rfl, sqt ha, atI0, ?_⟩
  refine ⟨_, rfl, (Nat.le_of_ble_eq_true rfl), fun p1 hp1 => ?_⟩
  have s1 := fun o => same_new hp1 o
  refine ⟨p1, _, rfl, .inr (sqt upd_same), rfl, (by decide +kernel), _, rfl, ?_⟩
  by_cases hnn : (i.cls == 0 && !b) = true
  · refine ifT (inT (ys := ["number", "name"]) rfl (by rw [cn]; exact hnn)) ?_
    have h0 : i.cls = 0 := by simp at hnn; exact hnn.1
    refine ⟨(Nat.le_of_ble_eq_true rfl), fun p hp => ?_⟩
    exact q p [] _ ((s1 _).trans (same_new hp _)) upd_same (by rw [kids_leaf h0]; exact kids0)
  refine ifF (inT (ys := ["number", "name"]) rfl (by rw [cn]; simpa using hnn)) ?_
  refine ⟨_, rfl, (Nat.le_of_ble_eq_true rfl), fun p2 hp2 => ?_⟩
  have s2 := fun o => (s1 _).trans (same_new hp2 o)
  refine ⟨p2, _, rfl, .inr (sqt upd_same), rfl, (by decide +kernel), _, rfl, ?_⟩
  by_cases h2 : i.cls = 2
  · refine ifT (inT (ys := ["div", "mod"]) rfl (by rw [c2, h2] <;> rfl)) ?_
    obtain ⟨x, j, n, e1, hj, ej⟩ := hi.divs h2
    refine ⟨_, rfl, 1, rfl, 2, rfl, a, _, rfl, sqt (s2 _ _ _ e1), not_whole _ _ _, fun p hp => ?_⟩
    refine q p [x] _ ((s2 _).trans (same_new hp _)) upd_same ?_
    rw [ej]
    exact kids1 (hj.mono (Tp.same ((s2 _).trans (same_new hp _))))
  refine ifF (inT (ys := ["div", "mod"]) rfl (by rw [c2]; simpa using h2)) ?_
  refine ⟨_, rfl, (Nat.le_of_ble_eq_true rfl), fun p3 hp3 => ?_⟩
  have s3 := fun o => (s2 _).trans (same_new hp3 o)
  refine ⟨p3, _, rfl, .inr (sqt upd_same), rfl, (by decide +kernel), _, rfl, ?_⟩
  by_cases h1 : i.cls = 1
  · refine ifT (inT (ys := ["all", "any"]) rfl (by rw [c1, h1] <;> rfl)) ?_
    obtain ⟨b2, ys, e1, e2, hk⟩ := hi.group h1
    refine ⟨_, rfl, a, _, 1, _, rfl, rfl, sqt (s3 _ _ _ e1), atI1, ?_⟩
    exact q b2 ys _ (s3 _) (s3 _ _ _ e2) (hk.mono (Tp.same (s3 _)))
  refine ifF (inT (ys := ["all", "any"]) rfl (by rw [c1]; simpa using h1)) ?_
  by_cases h0 : i.cls = 0
  · -- true, false: nothing stands behind the word
    rcases hi.leaf h0 with ⟨n, e, e1⟩ | ⟨n, e, e1⟩ | ⟨n, e, e1⟩
    · subst e; cases ho; exact absurd rfl hnn
    · subst e; cases ho; exact absurd rfl hnn
    · refine ⟨_, rfl, 1, rfl, a, _, rfl, sqt (s3 _ _ _ e1), not_whole _ _ _, fun p hp => ?_⟩
      rw [cut_tail]
      exact q p [] _ ((s3 _).trans (same_new hp _)) upd_same (by rw [kids_leaf h0]; exact kids0)
  · obtain ⟨ys, e1, hk⟩ := hi.rest (by rcases cls_le i with h | h | h | h <;> first | exact absurd h h0 | exact absurd h h1 | exact absurd h h2 | exact h)
    refine ⟨_, rfl, 1, rfl, a, _, rfl, sqt (s3 _ _ _ e1), not_whole _ _ _, fun p hp => ?_⟩
    rw [cut_tail]
    exact q p ys _ ((s3 _).trans (same_new hp _)) upd_same (hk.mono (Tp.same ((s3 _).trans (same_new hp _))))
/-! ### _written -/
structure Fit (xs : List Str) (B n : Nat) (b : Bool) (i : It) : Prop where
  ok : Okx xs B b i
  nm : ∀ x ∈ xs, Nw x
  bd : B < 10 ^ 60 + 1
  dp : i.dep ≤ n
  sz : i.sz ≤ 1000
theorem Fit.kid {xs : List Str} {B n : Nat} {b : Bool} {i j : It} (f : Fit xs B (n + 1) b i) (h : j ∈ i.kids) : ∃ b', Fit xs B n b' j := by
  obtain ⟨b', ho⟩ := kids_ok f.ok j h
  have h1 := depL_in h
  have h2 := @kids_dep i
  have h3 := sz_eq i
  have h4 : j.sz ≤ szL i.kids := by
    have : ∀ l : List It, j ∈ l → j.sz ≤ szL l := fun l => by
      induction l with
      | nil => intro h; cases h
      | cons a r ih =>
        intro h
        rw [szL]
        rcases List.mem_cons.mp h with e | e
        · rw [e]; omega
        · have := ih e
          omega
    exact this _ h
  have h5 := f.dp
  have h6 := f.sz
  exact ⟨b', ho, f.nm, f.bd, by omega, by omega⟩
theorem big {n : Nat} (h : n ≤ 1000000) : n ≤ sizeLine := Nat.le_trans h (by decide)
theorem big' {n : Nat} (h : n ≤ 1000000) : n < sizeLine := Nat.lt_of_le_of_lt h (by decide)
theorem strV {Q : VK} {a b : Str} {H : Hp} (h : a = b) (q : Q (.str b) H) : Q (.str a) H := by rw [h]; exact q
def spWr (n : Nat) : Sp := fun vs H Q _ => ∃ (v : V) (i : It) (xs : List Str) (B : Nat) (b : Bool), vs = [v] ∧ ItemIn H i v ∧ Fit xs B n b i ∧ ∀ H', Same H H' → Q (.str i.wr) H'
end
end NL

namespace NL
open PySem PySem.Spec PyProof.Rows L2
/-- the only item with the word "name" is a name -/
theorem word_name {H : Hp} {i : It} {a : Addr} (h : ItemIn H i (.ref a)) {xs : List Str} {B : Nat} {b : Bool} (ho : Okx xs B b i) :
    (∃ x, i = .name x ∧ H a = some (.tup [.str "name", .str x])) ∨ (decide (V.str i.word = V.str ("name" : Str)) = false ∧ ∀ x, i ≠ .name x) := by
  by_cases h0 : i.cls = 0
  · rcases h.leaf h0 with ⟨n, e, e1⟩ | ⟨n, e, e1⟩ | ⟨n, e, e1⟩
    · subst e; exact .inr ⟨by show decide (V.str ("number" : Str) = V.str ("name" : Str)) = false; decide +kernel, fun x h => by cases h⟩
    · exact .inl ⟨n, e, e1⟩
    · subst e; exact .inr ⟨by cases n <;> decide +kernel, fun x h => by cases h⟩
  · exact .inr ⟨word_ne ho h0 (by decide +kernel), fun x e => by rw [e] at h0; exact h0 rfl⟩
end NL

namespace NL
open PySem PySem.Spec PyProof.Rows L2
/-! ### runs of signs -/
def tl (z : Str) : List Nat := z.cps.toList
theorem tl_len (z : Str) : (tl z).length = z.length := (len_list z).symm
theorem tl_app (a b : Str) : tl (a ++ b) = tl a ++ tl b := app_list a b
theorem tl_mk (l : List Nat) : tl ⟨l.toArray⟩ = l := rfl
theorem mk_tl (z : Str) : (⟨(tl z).toArray⟩ : Str) = z := str_ext rfl
def rn (cs l : List Nat) : Nat := (l.takeWhile fun c => decide (c ∈ cs)).length
theorem rn_nil {cs : List Nat} : rn cs [] = 0 := rfl
theorem rn_in {cs l : List Nat} {c : Nat} (h : c ∈ cs) : rn cs (c :: l) = 1 + rn cs l := by
  unfold rn
  rw [List.takeWhile_cons, if_pos (decide_eq_true h), List.length_cons, Nat.add_comm]
theorem rn_out {cs l : List Nat} {c : Nat} (h : c ∉ cs) : rn cs (c :: l) = 0 := by
  unfold rn
  rw [List.takeWhile_cons, if_neg (by rw [decide_eq_false h]; exact Bool.false_ne_true)]
  rfl
theorem rn_le (cs : List Nat) : ∀ l, rn cs l ≤ l.length
  | [] => Nat.le_refl _
  | c :: r => by
    by_cases h : c ∈ cs
    · rw [rn_in h, List.length_cons]
      have := rn_le cs r
      omega
    · rw [rn_out h]; exact Nat.zero_le _
theorem rn_app {cs : List Nat} : ∀ (l r : List Nat), (∀ c ∈ l, c ∈ cs) → rn cs (l ++ r) = l.length + rn cs r
  | [], r, _ => by rw [List.nil_append, List.length_nil, Nat.zero_add]
  | c :: l, r, h => by
    rw [List.cons_append, rn_in (h c List.mem_cons_self), rn_app l r fun x hx => h x (List.mem_cons_of_mem _ hx), List.length_cons]
    omega
theorem rn_all {cs l : List Nat} (h : ∀ c ∈ l, c ∈ cs) : rn cs l = l.length := by
  have := rn_app l [] h
  rw [List.append_nil, rn_nil] at this
  exact this
theorem rn_stop {cs : List Nat} {l : List Nat} (h : ∀ c r, l = c :: r → c ∉ cs) : rn cs l = 0 := by
  cases l with
  | nil => rfl
  | cons c r => exact rn_out (h c r rfl)
abbrev lets : List Nat := tl "abcdefghijklmnopqrstuvwxyz"
abbrev digs : List Nat := tl "0123456789"
theorem in_lets {c : Nat} : c ∈ lets ↔ 97 ≤ c ∧ c ≤ 122 := by
  have e : lets = List.range' 97 26 := by decide +kernel
  rw [e, List.mem_range'_1]
  omega
theorem in_digs {c : Nat} : c ∈ digs ↔ 48 ≤ c ∧ c ≤ 57 := by
  have e : digs = List.range' 48 10 := by decide +kernel
  rw [e, List.mem_range'_1]
  omega
theorem in_blank {c : Nat} : c ∈ tl (" " : Str) ↔ c = 32 := by
  have e : tl (" " : Str) = [32] := by decide +kernel
  rw [e, List.mem_singleton]
/-- how long the piece is that begins here -/
def pc : List Nat → Nat
  | [] => 0
  | c :: r => if c ∈ lets then rn lets (c :: r) else if c ∈ digs ∨ c = 45 then 1 + rn digs r else 1
theorem pc_pos {l : List Nat} (h : l ≠ []) : 1 ≤ pc l ∧ pc l ≤ l.length := by
  cases l with
  | nil => exact absurd rfl h
  | cons c r =>
    show 1 ≤ (if c ∈ lets then rn lets (c :: r) else if c ∈ digs ∨ c = 45 then 1 + rn digs r else 1) ∧ (if c ∈ lets then rn lets (c :: r) else if c ∈ digs ∨ c = 45 then 1 + rn digs r else 1) ≤ (c :: r).length
    have := rn_le digs r
    rw [List.length_cons]
    split
    · rename_i hc
      rw [rn_in hc]
      have := rn_le lets r
      omega
    · split <;> omega
abbrev sp : List Nat := tl (" " : Str)
/-- the tokens of what stands from `at` on (it begins with no blank), each with its column -/
inductive Toks : List Nat → Nat → List (Str × Nat) → Prop where
  | nil (n : Nat) : Toks [] n []
  | cons {l : List Nat} {n : Nat} {ts : List (Str × Nat)} : l ≠ [] → Toks ((l.drop (pc l)).drop (rn sp (l.drop (pc l)))) (n + pc l + rn sp (l.drop (pc l))) ts → Toks l n ((⟨(l.take (pc l)).toArray⟩, n + 1) :: ts)
/-- a list of tokens in the heap -/
def TokL (H : Hp) (xs : List V) (ts : List (Str × Nat)) : Prop := xs.length = ts.length ∧ ∀ (k : Nat) t, ts[k]? = some t → ∃ a, xs[k]? = some (.ref a) ∧ H a = some (.tup [.str t.1, .int (t.2 : Nat)])
def TokIn (H : Hp) (q : Addr) (ts : List (Str × Nat)) : Prop := ∃ xs, H q = some (.lst xs) ∧ TokL H xs ts
theorem TokL.mono {H H' : Hp} {xs : List V} {ts : List (Str × Nat)} (h : TokL H xs ts) (t : Tp H H') : TokL H' xs ts := ⟨h.1, fun k u e => by
  obtain ⟨a, h1, h2⟩ := h.2 k u e
  exact ⟨a, h1, t _ _ h2⟩⟩
theorem TokIn.same {H H' : Hp} {q : Addr} {ts : List (Str × Nat)} (h : TokIn H q ts) (s : Same H H') : TokIn H' q ts := by
  obtain ⟨xs, e, t⟩ := h
  exact ⟨xs, s _ _ e, t.mono (Tp.same s)⟩
theorem TokL.snoc {H : Hp} {xs : List V} {ts : List (Str × Nat)} {z : Str} {n : Nat} {a : Addr} (h : TokL H xs ts) (e : H a = some (.tup [.str z, .int (n : Nat)])) : TokL H (xs ++ [.ref a]) (ts ++ [(z, n)]) := by
  refine ⟨by rw [List.length_append, List.length_append, h.1] <;> rfl, fun k t ht => ?_⟩
  by_cases hk : k < ts.length
  · rw [List.getElem?_append_left hk] at ht
    rw [List.getElem?_append_left (by rw [h.1]; exact hk)]
    exact h.2 k t ht
  · have hk2 : k = ts.length := by
      have := (List.getElem?_eq_some_iff.mp ht).1
      rw [List.length_append, List.length_singleton] at this
      omega
    subst hk2
    rw [List.getElem?_append_right (Nat.le_refl _), Nat.sub_self] at ht
    obtain rfl : (z, n) = t := Option.some.inj ht
    exact ⟨a, by rw [List.getElem?_append_right (by rw [h.1]; exact Nat.le_refl _), h.1, Nat.sub_self] <;> rfl, e⟩
theorem TokIn.get {H : Hp} {q : Addr} {ts : List (Str × Nat)} (h : TokIn H q ts) {n : Nat} {w : Str} {r : List Str} (e : (ts.map Prod.fst).drop n = w :: r) : ∃ xs a c, H q = some (.lst xs) ∧ atI xs (n : Int) = some (.ref a) ∧ H a = some (.tup [.str w, .int c]) := by
  obtain ⟨xs, eq, t⟩ := h
  have h1 : (ts.map Prod.fst)[n]? = some w := by
    have := congrArg (fun l : List Str => l[0]?) e
    simpa using this
  rw [List.getElem?_map] at h1
  cases hn : ts[n]? with
  | none => rw [hn] at h1; cases h1
  | some u =>
    rw [hn] at h1
    obtain rfl : u.1 = w := Option.some.inj h1
    obtain ⟨a, h2, h3⟩ := t.2 n u hn
    exact ⟨xs, a, _, eq, atI_nat h2, h3⟩
theorem drop_cons {α : Type} {l : List α} {n : Nat} {c : α} {r : List α} (h : l.drop n = c :: r) : l[n]? = some c ∧ l.drop (n + 1) = r ∧ n < l.length := by
  have h1 := congrArg (fun l : List α => l[0]?) h
  have h2 := congrArg (List.drop 1) h
  refine ⟨by simpa using h1, by simpa [List.drop_drop] using h2, ?_⟩
  refine Nat.lt_of_not_le fun hle => ?_
  rw [List.drop_eq_nil_of_le hle] at h
  cases h
theorem cut_mid {z : Str} {i j : Nat} (h : i ≤ j) (h2 : j ≤ z.length) : cutS z (some (i : Int)) (some (j : Int)) = ⟨(((tl z).drop i).take (j - i)).toArray⟩ := by
  unfold cutS
  rw [show HT.sIx z.length z.length (some (j : Int)) = min j z.length from HT.sIx_nat _ _ _, show HT.sIx z.length 0 (some (i : Int)) = min i z.length from HT.sIx_nat _ _ _, Nat.min_eq_left h2, Nat.min_eq_left (Nat.le_trans h h2)]
  rfl
theorem one_str {a b : Nat} : (V.str ⟨#[a]⟩ = V.str ⟨#[b]⟩) ↔ a = b := by
  constructor
  · intro h
    have := congrArg (fun z : Str => z.cps.toList) (V.str.inj h)
    simpa using this
  · rintro rfl; rfl
section
variable {P : Program} {w : World} {K : PySem.W.Frag} {mg : Str → Option Value} {base : Heap}
/-! ### run_end -/
def spRun : Sp := fun vs H Q _ => ∃ (z cs : Str) (n : Nat), vs = [.str z, .int (n : Int), .str cs] ∧ n ≤ z.length ∧ z.length ≤ 10000000 ∧ Q (.int ((n + rn (tl cs) ((tl z).drop n) : Nat) : Int)) H
theorem szl {n : Nat} (h : n ≤ 10000000) : n ≤ sizeLine := Nat.le_trans h (by decide)
theorem ok_run_end (T : Txt K mg) : FnOk P w K mg base CX0 1 T.arun_end T.drun_end Prun_end spRun := by
  refine T.Frun_end.ok scrun_end (fun vs H Q E h => ?_) (fun cdv A outer s H vs Q E hr h => ?_)
  · obtain ⟨z, cs, n, rfl, _⟩ := h
    rfl
  obtain ⟨z, cs, n, rfl, hn, hz, q⟩ := h
  refine ⟨_, (pss_cons (ps_while PassesOwn.never (PW.pt (pw_and (pt_cmpR op_lt (pv 1) (pe_callB call_len_str (by rfl) T.z_len PySem.boot_len (pa_cons (pv 0) pa_nil)) (nomark _)) (pw_and1 (pt_cmpR op_in_sign (pe_ix ix_str (pv 0) (pv 1) (fun _ _ => rfl)) (pv 2) (by rfl)))))
    (pss_one (ps_aug (i := 1) scrun_end.nd rfl (Or.inl rfl) pe_int ip_add)))
    (pss_one (ps_ret (pv 1)))), ?_⟩
  refine ⟨fun m σ H' => ∃ k : Nat, σ = [some (.str z), some (.int (k : Int)), some (.str cs)] ∧ H' = H ∧ m = z.length - k ∧ k ≤ z.length ∧ k + rn (tl cs) ((tl z).drop k) = n + rn (tl cs) ((tl z).drop n), ⟨_, n, rfl, rfl, rfl, hn, rfl⟩, ?_⟩
  rintro m σ H' ⟨k, rfl, rfl, rfl, hk, e⟩
  refine ⟨_, rfl, _, rfl, z, rfl, szl hz, _, _, rfl, rfl, _, rfl, ?_⟩
  refine ite2 (fun c => ?_) (fun c => ?_)
  · have hk2 : k < (tl z).length := by
      have := of_decide_eq_true c
      rw [tl_len]
      omega
    obtain ⟨ch, hc⟩ : ∃ ch, (tl z).drop k = ch :: (tl z).drop (k + 1) := ⟨_, List.drop_eq_getElem_cons hk2⟩
    refine ⟨_, rfl, _, rfl, _, _, ch, rfl, rfl, szl hz, atI_nat (drop_cons hc).1, ?_⟩
    refine ⟨_, rfl, ch, cs, rfl, rfl, _, rfl, ?_⟩
    by_cases hin : ch ∈ tl cs
    · refine ifT (decide_eq_true hin) ?_
      refine ⟨fun σ' H'' => ∃ m', m' < z.length - k ∧ ∃ k : Nat, σ' = [some (.str z), some (.int (k : Int)), some (.str cs)] ∧ H'' = H' ∧ m' = z.length - k ∧ k ≤ z.length ∧ k + rn (tl cs) ((tl z).drop k) = n + rn (tl cs) ((tl z).drop n), fun _ _ h => h, ?_⟩
      refine ⟨_, rfl, _, _, rfl, rfl, ?_⟩
      rw [tl_len] at hk2
      rw [hc, rn_in hin] at e
      exact ⟨z.length - (k + 1), by omega, k + 1, by rw [Int.natCast_add] <;> rfl, rfl, rfl, by omega, by omega⟩
    · refine ifF (decide_eq_false hin) ?_
      rw [hc, rn_out hin, Nat.add_zero] at e
      refine ⟨_, rfl, ?_⟩
      rw [e]
      exact q
  · have hk2 : (tl z).drop k = [] := by
      refine List.drop_eq_nil_of_le ?_
      rw [tl_len]
      refine Nat.le_of_not_lt fun h => c (decide_eq_true ?_)
      omega
    rw [hk2, rn_nil, Nat.add_zero] at e
    refine iteF ⟨_, rfl, ?_⟩
    rw [e]
    exact q
end
end NL

namespace NL
open PySem PySem.Spec PyProof.Rows L2
/-! ### what an integer is -/
theorem szl' {n : Nat} (h : n ≤ 10000000) : n < sizeLine := Nat.lt_of_le_of_lt h (by decide)
def rmv : List Nat → List Nat
  | [] => []
  | c :: r => if c = 45 then r else c :: r
theorem rmv_eq (z : Str) : tl (Txt.removeprefix z "-") = rmv (tl z) := by
  have m : ("-" : Str).cps = #[45] := by decide +kernel
  have ml : ("-" : Str).length = 1 := by decide +kernel
  have hs : Builtin.Str.subAt z "-" 0 = decide ((tl z).take 1 = [45]) := by
    unfold Builtin.Str.subAt
    rw [m, ml, Bool.beq_eq_decide_eq]
    refine decide_eq_decide.mpr ⟨fun h => ?_, fun h => ?_⟩
    · have := congrArg Array.toList h
      rw [Array.toList_extract] at this
      exact this
    · refine Array.toList_inj.mp ?_
      rw [Array.toList_extract]
      exact h
  unfold Txt.removeprefix
  rw [hs, ml]
  cases e : tl z with
  | nil =>
    rw [if_neg (by simp)]
    exact e
  | cons c r =>
    by_cases hc : c = 45
    · subst hc
      rw [if_pos (by simp)]
      have hl : z.length = r.length + 1 := by rw [← tl_len, e, List.length_cons]
      show tl (if (z.length - 1 == z.length) = true then z else Builtin.Str.strSub z 1 z.length) = r
      rw [if_neg (by simp; omega)]
      show (z.cps.extract 1 z.length).toList = r
      rw [Array.toList_extract]
      show ((tl z).drop 1).take (z.length - 1) = r
      rw [e, hl]
      simp
    · rw [if_neg (by simp [hc])]
      show tl z = if c = 45 then r else c :: r
      rw [if_neg hc, e]
def isI (z : Str) : Bool := decide (z = "0") || (decide (¬ (rmv (tl z) = [] ∨ (rmv (tl z)).head? = some 48 ∨ 60 < (rmv (tl z)).length)) && decide (rn digs (rmv (tl z)) = (rmv (tl z)).length))
def isN (z : Str) : Bool := decide (z ≠ "") && (decide (z ∉ res) && decide (rn lets (tl z) = (tl z).length))
theorem tl_nil {z : Str} : tl z = [] ↔ z = "" := ⟨fun h => str_ext h, fun h => by rw [h]; decide +kernel⟩
theorem boolE {Q : VK} {b b' : Bool} {H : Hp} (h : b = b') (q : Q (.bl b') H) : Q (.bl b) H := by rw [h]; exact q
theorem intN {a b : Nat} : decide (V.int (a : Int) = V.int (b : Int)) = decide (a = b) := decide_eq_decide.mpr ⟨fun h => Int.ofNat.inj (V.int.inj h), fun h => by rw [h]⟩
section
variable {P : Program} {w : World} {K : PySem.W.Frag} {mg : Str → Option Value} {base : Heap}
/-! ### is_name -/
def spIsN : Sp := fun vs H Q _ => ∃ z : Str, vs = [.str z] ∧ z.length ≤ 10000000 ∧ Q (.bl (isN z)) H
theorem ok_is_name (T : Txt K mg) : FnOk P w K mg base CX0 2 T.ais_name T.dis_name Pis_name spIsN := by
  have Grun_end := ok_run_end (P := P) (w := w) (base := base) T
  refine T.Fis_name.ok scis_name (fun vs H Q E h => ?_) (fun cdv A outer s H vs Q E hr h => ?_)
  · obtain ⟨z, rfl, _⟩ := h
    rfl
  obtain ⟨z, rfl, hz, q⟩ := h
  refine ⟨_, (pss_one (ps_ret (pe_and (pe_cmpR op_ne (pv 0) pe_str (nomark _)) (pe_and (pe_cmpR op_notIn_seq (pv 0) (pe_glob (v := .ref T.c_WORDS) rfl T.g_WORDS rfl) (by rfl)) (pe_one (pe_cmpR op_eq (pe_call Grun_end (hr.mono (by omega)) (by rfl) T.mrun_end T.Frun_end.kp T.brun_end .nil pass0 (pa_cons (pv 0) (pa_cons pe_int (pa_cons (pe_glob rfl T.g_LETTERS T.r_LETTERS) pa_nil)))) (pe_callB call_len_str (by rfl) T.z_len PySem.boot_len (pa_cons (pv 0) pa_nil)) (nomark _))))))), ?_⟩
  refine ⟨_, rfl, rfl, _, rfl, ?_⟩
  refine ite2 (fun c => ?_) (fun c => ?_)
  · have h1 : z ≠ "" := fun e => by
      rw [e] at c
      revert c
      decide +kernel
    refine ⟨_, rfl, T.c_WORDS, _, rfl, .inr (.inr T.k_WORDS), rfl, by decide +kernel, _, rfl, ?_⟩
    rw [if_pos rfl, show [V.str "true", V.str "false", V.str "add", V.str "sub", V.str "mul", V.str "div", V.str "mod", V.str "min", V.str "max", V.str "abs", V.str "if", V.str "less", V.str "equal", V.str "not", V.str "all", V.str "any"] = res.map V.str from rfl, inV_str]
    refine ite2 (fun c2 => ?_) (fun c2 => ?_)
    · have h2 : z ∉ res := fun h => by
        rw [decide_eq_true h] at c2
        cases c2
      refine ⟨_, rfl, z, _, 0, rfl, Nat.zero_le _, hz, _, rfl, z, rfl, szl hz, rfl, ?_⟩
      refine boolE ?_ q
      rw [intN]
      unfold isN
      rw [decide_eq_true h1, decide_eq_true h2, Bool.true_and, Bool.true_and, Nat.zero_add, List.drop_zero, tl_len]
    · have h2 : z ∈ res := Decidable.byContradiction fun h => c2 (by rw [decide_eq_false h] <;> rfl)
      refine boolE ?_ q
      unfold isN
      rw [decide_eq_true h1, decide_eq_false (fun h => h h2), Bool.false_and, Bool.and_false]
  · refine boolE ?_ q
    have h1 : z = "" := Decidable.byContradiction fun h => c (by
      show (!decide (V.str z = V.str "")) = true
      rw [strE, decide_eq_false h]
      rfl)
    unfold isN
    rw [decide_eq_false (fun h => h h1), Bool.false_and]
/-! ### is_integer -/
def spIsI : Sp := fun vs H Q _ => ∃ z : Str, vs = [.str z] ∧ z.length ≤ 10000000 ∧ Q (.bl (isI z)) H
theorem isI_bad {z : Str} (h0 : z ≠ "0") (h : rmv (tl z) = [] ∨ (rmv (tl z)).head? = some 48 ∨ 60 < (rmv (tl z)).length) : false = isI z := by
  unfold isI
  rw [decide_eq_false h0, decide_eq_false (fun g => g h), Bool.false_or, Bool.false_and]
/-! ### _piece_end -/
def spPiece : Sp := fun vs H Q _ => ∃ (z : Str) (n : Nat), vs = [.str z, .int (n : Int)] ∧ n < z.length ∧ z.length ≤ 10000000 ∧ Q (.int ((n + pc ((tl z).drop n) : Nat) : Int)) H
/-! ### tokens_of -/
def spToksOf : Sp := fun vs H Q _ => ∃ (z : Str) (ts : List (Str × Nat)), vs = [.str z] ∧ z.length ≤ 10000000 ∧ Toks ((tl z).drop (rn sp (tl z))) (rn sp (tl z)) ts ∧
  ∀ q H', Same H H' → H q = none → TokIn H' q (ts ++ [(("" : Str), z.length + 1)]) → Q (.ref q) H'
end
end NL

namespace NL
open PySem PySem.Spec PyProof.Rows L2 L2H HotX
theorem kit_ref {K : PySem.W.Frag} {D C : Addr} {b : Bool} (hne : b = false → D ≠ C) (i : PySem.W.isClsIn K C = true) (t : PySem.W.typeIn K (.ref C) = some (.type "type")) (s : PySem.W.subIn K (.ref D) (.ref C) = some b) : PySem.W.kitOne K (.ref D) (.ref C) = some b := by
  unfold PySem.W.kitOne
  by_cases e : D = C
  · subst e
    rw [if_pos (by simp)]
    cases b with
    | true => rfl
    | false => exact absurd rfl (hne rfl)
  · rw [if_neg (by simpa using e)]
    show (if ((PySem.W.clsIn K C).isSome && PySem.W.typeIn K (.ref C) == some (.type "type")) = true then PySem.W.subIn K (.ref D) (.ref C) else none) = some b
    have i' : (PySem.W.clsIn K C).isSome = true := i
    rw [i', t, if_pos (by rfl), s]
theorem exm_ref' {K : PySem.W.Frag} {cls : Value} {C : Addr} {b : Bool} (h1 : PySem.W.subIn K (.ref C) (.type "BaseException") = some true) (i : PySem.W.isClsIn K C = true) (t : PySem.W.typeIn K (.ref C) = some (.type "type")) (s : PySem.W.subIn K cls (.ref C) = some b) : PySem.W.exmOne K cls (.ref C) = some b := by
  unfold PySem.W.exmOne
  rw [h1, if_pos (by rfl)]
  show (if ((PySem.W.clsIn K C).isSome && PySem.W.typeIn K (.ref C) == some (.type "type")) = true then PySem.W.subIn K cls (.ref C) else none) = some b
  have i' : (PySem.W.clsIn K C).isSome = true := i
  rw [i', t, if_pos (by rfl), s]
theorem kit_val {K : PySem.W.Frag} {D : Addr} (s : PySem.W.subIn K (.ref D) (.type "ValueError") = some true) : PySem.W.kitOne K (.ref D) (.type "ValueError") = some true := by
  unfold PySem.W.kitOne
  rw [if_neg (by simp)]
  show (if PySem.W.kitMeta "ValueError" = true then PySem.W.subIn K (.ref D) (.type "ValueError") else none) = some true
  rw [if_pos (by decide +kernel), s]
theorem self_ne {K : PySem.W.Frag} {D C : Addr} (a : PySem.W.subIn K (.ref D) (.ref D) = some true) (b : PySem.W.subIn K (.ref D) (.ref C) = some false) : D ≠ C := fun e => by
  subst e; rw [a] at b; cases b
theorem takesN0 {X : Cx} : L2N.Takes X (fun _ _ _ _ => False) := fun _ _ x => by
  obtain ⟨_, _, _, _, _, _, _, _, _, _, _, _, _, _, _, _, z⟩ := x
  exact z.elim
theorem passE0 {X : Cx} {E : L2.St → XK} : ∀ σ, PassesAt CX0 X σ (E σ) := fun _ _ _ _ _ _ _ h => h.elim
theorem roomH_mark {j k : Nat} {A : Around} {v : Option Value} (r : Room k A) (h : j ≤ k) : RoomH j (A.mark v) := by
  have q : RoomH j A := (roomH_of r).mono h
  exact ⟨q.dp, q.un⟩
section
variable {P : Program} {w : World} {K : PySem.W.Frag} {mg : Str → Option Value} {base : Heap}
/-! ### _law_error_name -/
def spErrName (D : Addr) (z : Str) : SpE := fun a cls d vs H Q _ => vs = [.ref a] ∧ cls = .ref D ∧ d = none ∧ ∀ H', Same H H' → Q (.str z) H'
theorem ok_law_error_name (T : Txt K mg) (EX : Exs K mg) : FnE P w K mg base CX0 1 T.a_law_error_name T.d_law_error_name P_law_error_name (spErrName EX.c_InvalidExpression "InvalidExpression") := by
  refine okE T.F_law_error_name sc_law_error_name (fun a cls d vs H Q E h => ?_) (fun cdv A outer s H vs Q E p cls d hot hz0 hr h => ?_)
  · obtain ⟨rfl, _⟩ := h
    rfl
  obtain ⟨rfl, rfl, rfl, q⟩ := h
  have hf : ∃ vs, p.2.data = .fields vs := by
    obtain ⟨_, vs, e, _⟩ := hot
    exact ⟨vs, e⟩
  have hz : Zc (.ref EX.c_InvalidExpression) none p.2 := hz0
  have hEC : ExcC (cxH CX0 P w K mg base N_law_error_name "_law_error_name" (defScope s_law_error_name) T.a_law_error_name cdv A outer s H E p).K EX.c_InvalidExpression := EX.ec
  have hpin : p ∈ (cxH CX0 P w K mg base N_law_error_name "_law_error_name" (defScope s_law_error_name) T.a_law_error_name cdv A outer s H E p).pn := List.mem_cons_self
  have hHC : HotC (cxH CX0 P w K mg base N_law_error_name "_law_error_name" (defScope s_law_error_name) T.a_law_error_name cdv A outer s H E p) := ⟨p, hot, hpin⟩
  have no : ∀ {C : Addr}, PySem.W.subIn K (.ref EX.c_InvalidExpression) (.ref C) = some false → (false = false → EX.c_InvalidExpression ≠ C) := fun h _ => self_ne EX.s_InvalidExpression h
  refine ⟨_, (pss_cons (ps_if (pt_not (pt_val (pe_callB (call_isP hEC hpin hz hf) (by rfl) T.z_isinstance (by decide +kernel) (pa_cons (pv 0) (pa_cons (pe_bltn (v := .ty "ValueError") (u := .type "ValueError") (by rfl) T.z_ValueError (by decide +kernel) rfl) pa_nil)))))
    (pss_one (ps_ret pe_str))
    pss_nil)
    (pss_cons (ps_set (i := 1) sc_law_error_name.nd rfl (Or.inr rfl) (pe_lst (pa_cons (pe_callB (call_isP hEC hpin hz hf) (by rfl) T.z_isinstance (by decide +kernel) (pa_cons (pv 0) (pa_cons (pe_glob (v := .ref EX.c_InvalidExpression) rfl EX.g_InvalidExpression rfl) pa_nil))) (pa_cons (pe_callB (call_isP hEC hpin hz hf) (by rfl) T.z_isinstance (by decide +kernel) (pa_cons (pv 0) (pa_cons (pe_glob (v := .ref EX.c_InvalidPlant) rfl EX.g_InvalidPlant rfl) pa_nil))) (pa_cons (pe_callB (call_isP hEC hpin hz hf) (by rfl) T.z_isinstance (by decide +kernel) (pa_cons (pv 0) (pa_cons (pe_glob (v := .ref EX.c_InvalidArena) rfl EX.g_InvalidArena rfl) pa_nil))) pa_nil)))))
    (pss_cons (ps_set (i := 1) sc_law_error_name.nd rfl (Or.inr rfl) (pe_op op_cat (pv 1) (pe_lst (pa_cons (pe_callB (call_isP hEC hpin hz hf) (by rfl) T.z_isinstance (by decide +kernel) (pa_cons (pv 0) (pa_cons (pe_glob (v := .ref EX.c_InvalidGoal) rfl EX.g_InvalidGoal rfl) pa_nil))) (pa_cons (pe_callB (call_isP hEC hpin hz hf) (by rfl) T.z_isinstance (by decide +kernel) (pa_cons (pv 0) (pa_cons (pe_glob (v := .ref EX.c_BadText) rfl EX.g_BadText rfl) pa_nil))) (pa_cons (pe_callB (call_isP hEC hpin hz hf) (by rfl) T.z_isinstance (by decide +kernel) (pa_cons (pv 0) (pa_cons (pe_glob (v := .ref EX.c_NoPosition) rfl EX.g_NoPosition rfl) pa_nil))) (pa_cons (pe_callB (call_isP hEC hpin hz hf) (by rfl) T.z_isinstance (by decide +kernel) (pa_cons (pv 0) (pa_cons (pe_glob (v := .ref EX.c_Held) rfl EX.g_Held rfl) pa_nil))) pa_nil)))))))
    (pss_cons (ps_set (i := 1) sc_law_error_name.nd rfl (Or.inr rfl) (pe_op op_cat (pv 1) (pe_lst (pa_cons (pe_callB (call_isP hEC hpin hz hf) (by rfl) T.z_isinstance (by decide +kernel) (pa_cons (pv 0) (pa_cons (pe_glob (v := .ref EX.c_NotHeld) rfl EX.g_NotHeld rfl) pa_nil))) (pa_cons (pe_callB (call_isP hEC hpin hz hf) (by rfl) T.z_isinstance (by decide +kernel) (pa_cons (pv 0) (pa_cons (pe_glob (v := .ref EX.c_BadReply) rfl EX.g_BadReply rfl) pa_nil))) (pa_cons (pe_callB (call_isP hEC hpin hz hf) (by rfl) T.z_isinstance (by decide +kernel) (pa_cons (pv 0) (pa_cons (pe_glob (v := .ref EX.c_Lost) rfl EX.g_Lost rfl) pa_nil))) pa_nil))))))
    (pss_cons (ps_set (i := 2) sc_law_error_name.nd rfl (Or.inr rfl) (pe_lst (pa_cons pe_str (pa_cons pe_str (pa_cons pe_str (pa_cons pe_str (pa_cons pe_str (pa_cons pe_str (pa_cons pe_str pa_nil)))))))))
    (pss_cons (ps_set (i := 2) sc_law_error_name.nd rfl (Or.inr rfl) (pe_op op_cat (pv 2) (pe_lst (pa_cons pe_str (pa_cons pe_str (pa_cons pe_str pa_nil))))))
    (pss_cons (ps_setLcG (i := 3) (own := [("k", 4)]) (g := (gName 4)) (tt := _) hHC sc_law_error_name.nd rfl rfl (sw_true rfl rfl rfl (by decide +kernel)) (pi_range1G (by rfl) T.z_range (pa_cons pe_int pa_nil)) (blkOk_by (N := N_law_error_name) (sc := defScope s_law_error_name) (by decide +kernel)) (fun _ _ _ _ _ => (pg_name (i := 4) sc_law_error_name.nd rfl (Or.inl rfl))) (fun _ _ _ _ _ => (pts_one (pt_val (pe_ix (ix_listK (K := K) rfl) (pv 1) (pv 4) (fun _ _ => rfl))))) (fun _ _ _ _ _ => (pe_ix (ix_listK (K := K) rfl) (pv 2) (pv 4) (fun _ _ => rfl))))
    (pss_one (ps_ret (pe_join pe_str (pe_op op_cat (pv 3) (pe_op op_rep (pe_lst (pa_cons pe_str pa_nil)) (pe_callTy call_int1 (by rfl) T.z_int (by decide +kernel) (pa_cons (pe_cmpR op_eq (pe_callB call_len_seq (by rfl) T.z_len PySem.boot_len (pa_cons (pv 3) pa_nil)) pe_int (nomark _)) pa_nil)))))))))))))), ?_⟩
  refine ⟨_, rfl, .ty "ValueError", .type "ValueError", true, rfl, (fun u r => r), kit_val EX.sV, true, rfl, iteF ?_⟩
  refine ⟨_, rfl, _, .ref EX.c_InvalidExpression, true, rfl, (fun u r => r), kit_ref (fun h => nomatch h) EX.i_InvalidExpression EX.t_InvalidExpression EX.s_InvalidExpression, ?_⟩
  refine ⟨_, rfl, _, .ref EX.c_InvalidPlant, false, rfl, (fun u r => r), kit_ref (no EX.s_InvalidPlant) EX.i_InvalidPlant EX.t_InvalidPlant EX.s_InvalidPlant, ?_⟩
  refine ⟨_, rfl, _, .ref EX.c_InvalidArena, false, rfl, (fun u r => r), kit_ref (no EX.s_InvalidArena) EX.i_InvalidArena EX.t_InvalidArena EX.s_InvalidArena, ?_⟩
  refine ⟨(Nat.le_of_ble_eq_true rfl), fun p1 h1 => ?_⟩
  have s1 := fun o => same_new h1 o
  refine ⟨_, rfl, _, rfl, _, .ref EX.c_InvalidGoal, false, rfl, (fun u r => r), kit_ref (no EX.s_InvalidGoal) EX.i_InvalidGoal EX.t_InvalidGoal EX.s_InvalidGoal, ?_⟩
  refine ⟨_, rfl, _, .ref EX.c_BadText, false, rfl, (fun u r => r), kit_ref (no EX.s_BadText) EX.i_BadText EX.t_BadText EX.s_BadText, ?_⟩
  refine ⟨_, rfl, _, .ref EX.c_NoPosition, false, rfl, (fun u r => r), kit_ref (no EX.s_NoPosition) EX.i_NoPosition EX.t_NoPosition EX.s_NoPosition, ?_⟩
  refine ⟨_, rfl, _, .ref EX.c_Held, false, rfl, (fun u r => r), kit_ref (no EX.s_Held) EX.i_Held EX.t_Held EX.s_Held, ?_⟩
  refine ⟨(Nat.le_of_ble_eq_true rfl), fun p2 h2 => ?_⟩
  have s2 := fun o => (s1 _).trans (same_new h2 o)
  refine ⟨p1, p2, _, _, rfl, rfl, same_new h2 _ _ _ upd_same, upd_same, (Nat.le_of_ble_eq_true rfl), fun p3 h3 => ?_⟩
  have s3 := fun o => (s2 _).trans (same_new h3 o)
  refine ⟨_, rfl, _, rfl, _, .ref EX.c_NotHeld, false, rfl, (fun u r => r), kit_ref (no EX.s_NotHeld) EX.i_NotHeld EX.t_NotHeld EX.s_NotHeld, ?_⟩
  refine ⟨_, rfl, _, .ref EX.c_BadReply, false, rfl, (fun u r => r), kit_ref (no EX.s_BadReply) EX.i_BadReply EX.t_BadReply EX.s_BadReply, ?_⟩
  refine ⟨_, rfl, _, .ref EX.c_Lost, false, rfl, (fun u r => r), kit_ref (no EX.s_Lost) EX.i_Lost EX.t_Lost EX.s_Lost, ?_⟩
  refine ⟨(Nat.le_of_ble_eq_true rfl), fun p4 h4 => ?_⟩
  have s4 := fun o => (s3 _).trans (same_new h4 o)
  refine ⟨p3, p4, _, _, rfl, rfl, same_new h4 _ _ _ upd_same, upd_same, (Nat.le_of_ble_eq_true rfl), fun pk hk => ?_⟩
  have s5 := fun o => (s4 _).trans (same_new hk o)
  refine ⟨(Nat.le_of_ble_eq_true rfl), fun p6 h6 => ?_⟩
  have s6 := fun o => (s5 _).trans (same_new h6 o)
  refine ⟨_, rfl, (Nat.le_of_ble_eq_true rfl), fun p7 h7 => ?_⟩
  have s7 := fun o => (s6 _).trans (same_new h7 o)
  refine ⟨p6, p7, _, _, rfl, rfl, same_new h7 _ _ _ upd_same, upd_same, (Nat.le_of_ble_eq_true rfl), fun pn hn => ?_⟩
  have s8 := fun o => (s7 _).trans (same_new hn o)
  have ek0 := same_new hn (.lst ([V.str "InvalidExpression", .str "InvalidPlant", .str "InvalidArena", .str "InvalidGoal", .str "BadText", .str "NoPosition", .str "Held"] ++ [V.str "NotHeld", .str "BadReply", .str "Lost"])) pk (.lst [V.bl true, .bl false, .bl false, .bl false, .bl false, .bl false, .bl false, .bl false, .bl false, .bl false]) (same_new h7 _ _ _ (same_new h6 _ _ _ upd_same))
  have s08 := s8 (.lst ([V.str "InvalidExpression", .str "InvalidPlant", .str "InvalidArena", .str "InvalidGoal", .str "BadText", .str "NoPosition", .str "Held"] ++ [V.str "NotHeld", .str "BadReply", .str "Lost"]))
  refine ⟨10, rfl, by decide, by decide, fun D hD => ?_⟩
  generalize hH8 : upd _ pn (HO.lst ([V.str "InvalidExpression", .str "InvalidPlant", .str "InvalidArena", .str "InvalidGoal", .str "BadText", .str "NoPosition", .str "Held"] ++ [V.str "NotHeld", .str "BadReply", .str "Lost"])) = H8 at hD ek0 s08 ⊢
  have ek : ∀ H', Same H8 H' → H' pk = some (.lst [V.bl true, .bl false, .bl false, .bl false, .bl false, .bl false, .bl false, .bl false, .bl false, .bl false]) := fun H' h => h _ _ ek0
  have en : ∀ H', Same H8 H' → H' pn = some (.lst [V.str "InvalidExpression", .str "InvalidPlant", .str "InvalidArena", .str "InvalidGoal", .str "BadText", .str "NoPosition", .str "Held", .str "NotHeld", .str "BadReply", .str "Lost"]) := fun H' h => h _ _ (by rw [← hH8]; exact upd_same)
  refine lc_range (lo := 0) (n := 10) (fun (j : Nat) (H' : Hp) => Same H8 H' ∧ H' D = some (.lst (if j = 0 then [] else [V.str "InvalidExpression"]))) ?_ ?_ ?_
  · exact ⟨same_new hD _, by rw [upd_same]; rfl⟩
  · rintro j H' hj ⟨s9, e9⟩
    refine ⟨rfl, ?_⟩
    have e0 : (0 : Int) + (j : Int) = (j : Int) := Int.zero_add _
    by_cases hj0 : j = 0
    · subst hj0
      refine ⟨_, rfl, _, rfl, pk, _, _, V.bl true, rfl, rfl, sqd (ek H' s9), by rw [e0]; exact atI_nat rfl, true, rfl, ?_⟩
      refine ifT rfl ?_
      refine ⟨_, rfl, _, rfl, pn, _, _, V.str "InvalidExpression", rfl, rfl, sqd (en H' s9), by rw [e0]; exact atI_nat rfl, ?_⟩
      refine ⟨_, e9, by decide, same_put s9 hD, ?_⟩
      rw [upd_same]
      rfl
    · have hb : ([V.bl true, .bl false, .bl false, .bl false, .bl false, .bl false, .bl false, .bl false, .bl false, .bl false] : List V)[j]? = some (V.bl false) := by
        match j, hj, hj0 with
        | 0, _, h => exact absurd rfl h
        | 1, _, _ => rfl
        | 2, _, _ => rfl
        | 3, _, _ => rfl
        | 4, _, _ => rfl
        | 5, _, _ => rfl
        | 6, _, _ => rfl
        | 7, _, _ => rfl
        | 8, _, _ => rfl
        | 9, _, _ => rfl
      refine ⟨_, rfl, _, rfl, pk, _, _, V.bl false, rfl, rfl, sqd (ek H' s9), by rw [e0]; exact atI_nat hb, false, rfl, ?_⟩
      refine ifF rfl ⟨s9, ?_⟩
      rw [e9, if_neg hj0, if_neg (by omega)]
  · rintro H' ⟨s9, e9⟩
    rw [if_neg (by decide)] at e9
    refine ⟨⟨_, rfl⟩, _, rfl, (Nat.le_of_ble_eq_true rfl), fun p10 h10 => ?_⟩
    have eD := fun o => same_new h10 o _ _ e9
    refine ⟨_, rfl, D, _, rfl, .inl (sqd (eD _)), rfl, .inr ⟨_, rfl, ?_⟩⟩
    refine ⟨p10, _, _, rfl, rfl, upd_same, by decide, by decide, by decide, fun p11 h11 => ?_⟩
    refine ⟨D, p11, _, _, rfl, rfl, same_new h11 _ _ _ (eD _), upd_same, by decide, fun p12 h12 => ?_⟩
    refine ⟨_, p12, ["InvalidExpression"], rfl, rfl, .inl (sqd upd_same), by decide +kernel, ?_⟩
    have e : Txt.join " " ["InvalidExpression"] = ("InvalidExpression" : Str) := by decide +kernel
    rw [e]
    exact q _ (s08.trans (s9.trans ((same_new h10 _).trans ((same_new h11 _).trans (same_new h12 _)))))
end
end NL

namespace NL
open PySem PySem.Spec PyProof.Rows L2
/-! ### what is valid at a depth t -/
mutual
def It.vl (t : Nat) : It → Bool
  | .num _ => decide (t ≤ 12)
  | .name x => decide (t ≤ 12) && isN x
  | .lit _ => decide (t ≤ 12)
  | .un _ a => decide (t ≤ 12) && a.vl (t + 1)
  | .dm _ a n => decide (t ≤ 12) && (decide (1 ≤ n) && a.vl (t + 1))
  | .bin _ a b => decide (t ≤ 12) && (a.vl (t + 1) && b.vl (t + 1))
  | .tri a b c => decide (t ≤ 12) && (a.vl (t + 1) && (b.vl (t + 1) && c.vl (t + 1)))
  | .grp _ l => decide (t ≤ 12) && vlL (t + 1) l
def vlL (t : Nat) : List It → Bool
  | [] => true
  | a :: r => a.vl t && vlL t r
end
/-- the word's own part -/
def It.hd : It → Bool
  | .name x => isN x
  | .dm _ _ n => decide (1 ≤ n)
  | _ => true
theorem vl_eq (t : Nat) (i : It) : i.vl t = (decide (t ≤ 12) && (i.hd && vlL (t + 1) i.kids)) := by
  cases i <;> simp only [It.vl, It.hd, It.kids, vlL, Bool.and_true, Bool.true_and]
theorem vlL_take {t : Nat} : ∀ {l : List It} {j : Nat} {i : It}, l[j]? = some i → vlL t (l.take (j + 1)) = (vlL t (l.take j) && i.vl t)
  | [], j, i, h => by simp at h
  | a :: r, 0, i, h => by
    cases Option.some.inj h
    simp [vlL]
  | a :: r, j + 1, i, h => by
    rw [List.take_succ_cons, List.take_succ_cons, vlL, vlL, vlL_take (l := r) (by simpa using h), Bool.and_assoc]
theorem vlL_in {t : Nat} : ∀ {l : List It}, vlL t l = true ↔ ∀ i ∈ l, i.vl t = true
  | [] => by simp [vlL]
  | a :: r => by
    rw [vlL, Bool.and_eq_true, vlL_in]
    simp
section
variable {P : Program} {w : World} {K : PySem.W.Frag} {mg : Str → Option Value} {base : Heap}
/-! ### _check -/
def spCheckX (D : Addr) (n : Nat) : Sp := fun vs H Q E => ∃ (v : V) (i : It) (xs : List Str) (B : Nat) (b : Bool) (t : Nat), vs = [v, .int (t : Int)] ∧ ItemIn H i v ∧ Okx xs B b i ∧ (∀ x ∈ xs, x.length ≤ 1000) ∧ t ≤ 13 ∧ 14 ≤ t + n ∧ (i.vl t = true → ∀ H', Same H H' → Q .non H') ∧ (i.vl t = false → ∀ H', Same H H' → E (.ref D) none H')
theorem ok_check (T : Txt K mg) (EX : Exs K mg) : ∀ n : Nat, FnOk P w K mg base (L2N.CX P w) (n + 3) T.a_check T.d_check P_check (spCheckX EX.c_InvalidExpression n)
  | 0 => by
    have no : ∀ vs H Q E, ¬ spCheckX EX.c_InvalidExpression 0 vs H Q E := fun vs H Q E ⟨v, i, xs, B, b, t, _, _, _, _, h1, h2, _⟩ => by omega
    exact ⟨fun vs H Q E h => absurd h (no vs H Q E), fun A outer s H args us vs Q E _ _ _ _ h => absurd h (no vs H Q E)⟩
  | n + 1 => by
    have G_check := ok_check T EX n
    have Gparts_in := ok_parts_in (P := P) (w := w) (base := base) T
    have Gis_name := ok_is_name (P := P) (w := w) (base := base) T
    refine okN T.F_check sc_check (fun vs H Q E h => ?_) (fun cdv A outer s H vs Q E hr h => ?_)
    · obtain ⟨v, i, xs, B, b, t, rfl, _⟩ := h
      rfl
    obtain ⟨v, i, xs, B, b, t, rfl, hi, ho, hxs, ht, hn, q, qE⟩ := h
    obtain ⟨a, rfl⟩ := hi.ref
    obtain ⟨r, ha⟩ := hi.head
    rw [vl_eq] at q qE
    refine ⟨_, (pss_cons (ps_if (pt_cmpR op_gt (pv 1) (pe_glob rfl T.g_MOST_DEPTH T.r_MOST_DEPTH) (nomark _))
    (pss_one (L2N.ps_raise rfl (L2N.takes_of rfl rfl rfl rfl) (L2N.pmk_own PySem.F.excBase_ValueError EX.x EX.g_InvalidExpression EX.k (raises_own EX.b EX.t_InvalidExpression) rfl)))
    pss_nil)
    (pss_cons (ps_set (i := 2) sc_check.nd rfl (Or.inl rfl) (pe_ix ix_tup (pv 0) pe_int (fun _ _ => rfl)))
    (pss_cons (ps_if (PW.pt (pw_and (pt_cmpR op_eq (pv 2) pe_str (nomark _)) (pw_and1 (pt_not (pt_val (pe_call Gis_name (hr.mono (by omega)) (by rfl) T.mis_name T.Fis_name.kp T.bis_name .nil pass0 (pa_cons (pe_ix ix_tup (pv 0) pe_int (fun _ _ => rfl)) pa_nil)))))))
    (pss_one (L2N.ps_raise rfl (L2N.takes_of rfl rfl rfl rfl) (L2N.pmk_own PySem.F.excBase_ValueError EX.x EX.g_InvalidExpression EX.k (raises_own EX.b EX.t_InvalidExpression) rfl)))
    pss_nil)
    (pss_cons (ps_if (PW.pt (pw_and (pt_cmpR op_in_seq (pv 2) (pe_tup (pa_cons pe_str (pa_cons pe_str pa_nil))) (by rfl)) (pw_and1 (pt_cmpR op_lt (pe_ix ix_tup (pv 0) pe_int (fun _ _ => rfl)) pe_int (nomark _)))))
    (pss_one (L2N.ps_raise rfl (L2N.takes_of rfl rfl rfl rfl) (L2N.pmk_own PySem.F.excBase_ValueError EX.x EX.g_InvalidExpression EX.k (raises_own EX.b EX.t_InvalidExpression) rfl)))
    pss_nil)
    (pss_one (ps_for (passes_of rfl) rfl (pi_tup (pe_call Gparts_in (hr.mono (by omega)) (by rfl) T.mparts_in T.Fparts_in.kp T.bparts_in .nil pass0 (pa_cons (pv 0) pa_nil))) (pg_name (i := 3) sc_check.nd rfl (Or.inl rfl))
    (pss_one (ps_expr (pe_callS G_check (hr.mono (by omega)) (by rfl) T.m_check T.F_check.kp T.b_check (fun σ => L2N.passAt (L2N.takes_of rfl rfl rfl rfl) σ) (pa_cons (pv 3) (pa_cons (pe_op op_add (pv 1) pe_int) pa_nil))))))))))), ?_⟩
    refine ⟨_, rfl, _, _, rfl, rfl, _, rfl, ?_⟩
    by_cases ht12 : t ≤ 12
    · refine ifF (decide_eq_false (by omega)) ?_
      rw [decide_eq_true ht12, Bool.true_and] at q qE
      refine ⟨_, rfl, a, _, 0, _, rfl, rfl, sqt ha, atI0, ?_⟩
      refine ⟨_, rfl, rfl, _, rfl, ?_⟩
      have hxn : ∀ x, i = .name x → x.length ≤ 10000000 := fun x e => by
        rw [e] at ho
        cases ho with
        | name h => have := hxs x h; omega
      by_cases hnm : ∃ x, i = .name x ∧ isN x = false
      · obtain ⟨x, ex, hb⟩ := hnm
        have e1 : H a = some (.tup [.str "name", .str x]) := by
          rw [ex] at hi
          cases hi with
          | name e => exact e
        refine ifT (by rw [ex]; show decide (V.str ("name" : Str) = V.str ("name" : Str)) = true; decide +kernel) ?_
        refine ⟨_, rfl, a, _, 1, _, rfl, rfl, sqt e1, atI1, x, rfl, hxn x ex, _, rfl, ?_⟩
        rw [hb]
        exact iteT (qE (by rw [ex]; simp [It.hd, hb]) H (Same.refl H))
      -- behind the names: the divisors, then the parts
      refine' cutP ?f ?b
      case f =>
        intro body
        rcases word_name hi ho with ⟨x, ex, e1⟩ | ⟨hw, hne⟩
        · refine ifT (by rw [ex]; show decide (V.str ("name" : Str) = V.str ("name" : Str)) = true; decide +kernel) ?_
          refine ⟨_, rfl, a, _, 1, _, rfl, rfl, sqt e1, atI1, x, rfl, hxn x ex, _, rfl, ?_⟩
          have hb : isN x = true := by
            cases h : isN x with
            | true => rfl
            | false => exact absurd ⟨x, ex, h⟩ hnm
          rw [hb]
          exact iteF body
        · exact ifF hw (iteF body)
      case b =>
        refine ⟨_, rfl, (Nat.le_of_ble_eq_true rfl), fun p1 hp1 => ?_⟩
        have s1 := fun o => same_new hp1 o
        refine ⟨p1, _, rfl, .inr (sqt upd_same), rfl, (by decide +kernel), _, rfl, ?_⟩
        obtain ⟨_, _, _, _, c2⟩ := word_cls ho
        by_cases hdm : ∃ w j m, i = .dm w j m ∧ m < 1
        · obtain ⟨w, j, m, ei, hm⟩ := hdm
          have h2 : i.cls = 2 := by rw [ei]; rfl
          obtain ⟨x, j', m', e1, hj, ej⟩ := hi.divs h2
          have em : m' = m := by rw [ei] at ej; cases ej; rfl
          refine ifT (inT (ys := ["div", "mod"]) rfl (by rw [c2, h2] <;> rfl)) ?_
          refine ⟨_, rfl, a, _, 2, _, rfl, rfl, sqt (s1 _ _ _ e1), atI2, _, _, rfl, rfl, _, rfl, ?_⟩
          refine ifT (decide_eq_true (by rw [em]; exact hm)) ?_
          exact qE (by rw [ei]; simp only [It.hd]; rw [decide_eq_false (by omega)]; rfl) _ (s1 _)
        have hhd : i.hd = true := by
          cases i with
          | name x =>
            cases h : isN x with
            | true => exact h
            | false => exact absurd ⟨x, rfl, h⟩ hnm
          | dm w j m => exact decide_eq_true (by
              have : ¬ m < 1 := fun h => hdm ⟨w, j, m, rfl, h⟩
              omega)
          | num _ => rfl
          | lit _ => rfl
          | un _ _ => rfl
          | bin _ _ _ => rfl
          | tri _ _ _ => rfl
          | grp _ _ => rfl
        rw [hhd, Bool.true_and] at q qE
        refine' cutP ?f2 ?b2
        case f2 =>
          intro body
          by_cases h2 : i.cls = 2
          · refine ifT (inT (ys := ["div", "mod"]) rfl (by rw [c2, h2] <;> rfl)) ?_
            obtain ⟨x, j, m, e1, hj, ej⟩ := hi.divs h2
            have hm : ¬ m < 1 := fun h => hdm ⟨_, _, _, ej, h⟩
            refine ⟨_, rfl, a, _, 2, _, rfl, rfl, sqt (s1 _ _ _ e1), atI2, _, _, rfl, rfl, _, rfl, ?_⟩
            exact ifF (decide_eq_false hm) body
          · exact ifF (inT (ys := ["div", "mod"]) rfl (by rw [c2]; simpa using h2)) (iteF body)
        case b2 =>
          refine ⟨_, rfl, _, i, xs, B, b, rfl, hi.mono (Tp.same (s1 _)), ho, fun tp ys H2 s2 e2 hk => ?_⟩
          have s12 := fun o => (s1 o)
          refine ⟨tp, rfl, ⟨_, sqt e2⟩, for_tup (K := K) (a := tp) (xs := ys) (fun (j : Nat) (σ : L2.St) (H' : Hp) => ∃ y3 : Option V, σ = [some (.ref a), some (.int (t : Int)), some (.str i.word), y3] ∧ Same H2 H' ∧ vlL (t + 1) (i.kids.take j) = true) ?_ ?_ ?_ ?_⟩
          · exact ⟨none, rfl, Same.refl H2, by rw [List.take_zero, vlL]⟩
          · rintro j σ H' _ ⟨y3, rfl, s3, _⟩
            exact sqt (s3 _ _ e2)
          · rintro j x σ H3 hx ⟨y3, rfl, s3, hv⟩
            obtain ⟨kj, hkj, hin, hmem⟩ := hk.get hx
            obtain ⟨b', hj⟩ := kids_ok ho kj hmem
            refine ⟨_, rfl, _, rfl, _, _, rfl, rfl, _, kj, xs, B, b', t + 1, rfl, hin.mono (Tp.same s3), hj, hxs, by omega, by omega, fun hv2 H4 s4 => ?_, fun hv2 H4 s4 => ?_⟩
            · exact ⟨_, rfl, s3.trans s4, by rw [vlL_take hkj, hv, hv2]; rfl⟩
            · refine qE ?_ H4 ((s1 _).trans (s2.trans (s3.trans s4)))
              cases h : vlL (t + 1) i.kids with
              | false => rfl
              | true =>
                have := vlL_in.mp h kj hmem
                rw [hv2] at this
                cases this
          · rintro σ H3 ⟨y3, rfl, s3, hv⟩
            rw [hk.1, List.take_length] at hv
            exact q hv _ ((s1 _).trans (s2.trans s3))
    · refine ifT (decide_eq_true (by omega)) ?_
      exact qE (by rw [decide_eq_false ht12]; rfl) H (Same.refl H)
theorem ok_check_expression (T : Txt K mg) (EX : Exs K mg) : FnOk P w K mg base (L2N.CX P w) 17 T.acheck_expression T.dcheck_expression Pcheck_expression (fun vs H Q E => ∃ (v : V) (i : It) (xs : List Str) (B : Nat) (b : Bool), vs = [v] ∧ ItemIn H i v ∧ Okx xs B b i ∧ (∀ x ∈ xs, x.length ≤ 1000) ∧ (i.vl 1 = true → ∀ H', Same H H' → Q .non H') ∧ (i.vl 1 = false → ∀ H', Same H H' → E (.ref EX.c_InvalidExpression) none H')) := by
  have G_check := ok_check (P := P) (w := w) (base := base) T EX 13
  refine okN T.Fcheck_expression sccheck_expression (fun vs H Q E h => ?_) (fun cdv A outer s H vs Q E hr h => ?_)
  · obtain ⟨v, i, xs, B, b, rfl, _⟩ := h
    rfl
  obtain ⟨v, i, xs, B, b, rfl, hi, ho, hxs, q, qE⟩ := h
  refine ⟨_, (pss_one (ps_expr (pe_callS G_check (hr.mono (by omega)) (by rfl) T.m_check T.F_check.kp T.b_check (fun σ => L2N.passAt (L2N.takes_of rfl rfl rfl rfl) σ) (pa_cons (pv 0) (pa_cons pe_int pa_nil))))), ?_⟩
  exact ⟨_, rfl, v, i, xs, B, b, 1, rfl, hi, ho, hxs, by omega, by omega, fun h H' s' => q h H' s', fun h H' s' => qE h H' s'⟩
theorem ok_check_condition (T : Txt K mg) (EX : Exs K mg) : FnOk P w K mg base (L2N.CX P w) 17 T.acheck_condition T.dcheck_condition Pcheck_condition (fun vs H Q E => ∃ (v : V) (i : It) (xs : List Str) (B : Nat) (b : Bool), vs = [v] ∧ ItemIn H i v ∧ Okx xs B b i ∧ (∀ x ∈ xs, x.length ≤ 1000) ∧ (i.vl 1 = true → ∀ H', Same H H' → Q .non H') ∧ (i.vl 1 = false → ∀ H', Same H H' → E (.ref EX.c_InvalidExpression) none H')) := by
  have G_check := ok_check (P := P) (w := w) (base := base) T EX 13
  refine okN T.Fcheck_condition sccheck_condition (fun vs H Q E h => ?_) (fun cdv A outer s H vs Q E hr h => ?_)
  · obtain ⟨v, i, xs, B, b, rfl, _⟩ := h
    rfl
  obtain ⟨v, i, xs, B, b, rfl, hi, ho, hxs, q, qE⟩ := h
  refine ⟨_, (pss_one (ps_expr (pe_callS G_check (hr.mono (by omega)) (by rfl) T.m_check T.F_check.kp T.b_check (fun σ => L2N.passAt (L2N.takes_of rfl rfl rfl rfl) σ) (pa_cons (pv 0) (pa_cons pe_int pa_nil))))), ?_⟩
  exact ⟨_, rfl, v, i, xs, B, b, 1, rfl, hi, ho, hxs, by omega, by omega, fun h H' s' => q h H' s', fun h H' s' => qE h H' s'⟩
end
end NL

namespace NL
open PySem PySem.Spec PyProof.Rows L2
theorem zn_hot2 {A : Around} {a : Addr} {oe : Obj} {cls : Value} {d : Option Addr} (hz : L2N.Zn cls d oe) (hf : ∃ vs, oe.data = .fields vs) (h : A.handled = some (.ref a)) : L2H.Hot1 A (a, oe) := by
  obtain ⟨vs, hv⟩ := hf
  exact ⟨h, vs, hv, hz.2.2 vs hv⟩
section
variable {X : Cx} {CX : CXT} {k : Nat} {f : Addr} {fd : FuncData} {ps : List Str} {sp : SpE} {E : L2.St → XK} {x : Str} {q pos : Pos} {e : Expr} {es : List Expr} {t : TA}
theorem pe_callE2 {a : Addr} {oe : Obj} {cls : Value} {d : Option Addr} (F : FnE X.prog X.w X.K X.mg X.base CX k f fd ps sp) (hr : L2H.RoomH k X.A) (hot : L2H.Hot1 X.A (a, oe)) (hp : (a, oe) ∈ X.pn) (hz : Zc cls d oe) (hg : Gl X x) (hm : X.mg x = some (.ref f)) (hk : PySem.W.keepIn X.K (.ref f) = true) (hb : Binds X.K fd ps []) (hx : ∀ σ, PassesAt CX X σ (E σ))
    (ha : PA X (e :: es) t) (hdb : (x == ("__debug__" : Str)) = false := by decide) (he : starEach (e :: es) X.env = (false, eval e X.env) :: starEach es X.env := by rfl) (hpl : (backTo pos (starEach es X.env)).any (·.1) = false := by rfl) :
    PE X (.Call (.Name x q) (e :: es) [] pos) (tCallS (sp a cls d) E t) := pe_callE (p := (a, oe)) F hr hot hp hz hg hm hk hb hx ha hdb he hpl
end
section
variable {P : Program} {w : World} {K : PySem.W.Frag} {mg : Str → Option Value} {base : Heap}
/-! ### _law_checked -/
def spChecked : Sp := fun vs H Q _ => ∃ (v : V) (i : It) (xs : List Str) (B : Nat) (b : Bool), vs = [v] ∧ ItemIn H i v ∧ Okx xs B b i ∧ (∀ x ∈ xs, x.length ≤ 1000) ∧ ∀ H', Same H H' → Q (.str (if i.vl 1 = true then "" else "raised InvalidExpression")) H'
theorem ok_law_checked (T : Txt K mg) (EX : Exs K mg) : FnOk P w K mg base CX0 18 T.a_law_checked T.d_law_checked P_law_checked spChecked := by
  have Gcheck_expression := ok_check_expression (P := P) (w := w) (base := base) T EX
  have Gcheck_condition := ok_check_condition (P := P) (w := w) (base := base) T EX
  have G_law_error_name := ok_law_error_name (P := P) (w := w) (base := base) T EX
  have G_law_is_test := ok_law_is_test (P := P) (w := w) (base := base) T
  refine T.F_law_checked.ok sc_law_checked (fun vs H Q E h => ?_) (fun cdv A outer s H vs Q E hr h => ?_)
  · obtain ⟨v, i, xs, B, b, rfl, _⟩ := h
    rfl
  obtain ⟨v, i, xs, B, b, rfl, hi, ho, hxs, q⟩ := h
  refine ⟨_, (pss_cons (L2N.ps_try_as (X := (cxOf CX0 P w K mg base N_law_checked "_law_checked" (defScope s_law_checked) T.a_law_checked cdv A outer s H E).nox) (i := 2) rfl rfl sc_law_checked.nd rfl rfl ⟨rfl, by decide, .inl EX.g_ControlError⟩ takesN0 (fun W pn xe tk po => (pss_one (ps_if (pt_val (pe_call G_law_is_test (hr.mono (by omega)) (by rfl) T.m_law_is_test T.F_law_is_test.kp T.b_law_is_test .nil pass0 (pa_cons (pv 0) pa_nil)))
    (pss_one (ps_set (i := 1) sc_law_checked.nd rfl (Or.inl rfl) (pe_callS Gcheck_condition (hr.mono (by omega)) (by rfl) T.mcheck_condition T.Fcheck_condition.kp T.bcheck_condition (fun σ => L2N.passAt tk σ) (pa_cons (pv 0) pa_nil))))
    (pss_one (ps_set (i := 1) sc_law_checked.nd rfl (Or.inl rfl) (pe_callS Gcheck_expression (hr.mono (by omega)) (by rfl) T.mcheck_expression T.Fcheck_expression.kp T.bcheck_expression (fun σ => L2N.passAt tk σ) (pa_cons (pv 0) pa_nil))))))) (fun a oe cls d pn hz hf => by exact (pss_one (ps_ret (pe_op op_add_str pe_str (by exact pe_callE2 (X := (cxOf CX0 P w K mg base N_law_checked "_law_checked" (defScope s_law_checked) T.a_law_checked cdv A outer s H E).nox.suite a ((a, oe) :: pn)) (a := a) (oe := oe) (cls := cls) (d := d) G_law_error_name (roomH_mark (j := 1) hr (by decide)) (by exact zn_hot2 hz hf rfl) (by exact List.mem_cons_self) hz.zc (by rfl) T.m_law_error_name T.F_law_error_name.kp T.b_law_error_name (E := fun _ _ _ _ => False) passE0 (pa_cons (pv 2) pa_nil)))))))
    (pss_cons (ps_if (pt_cmpR op_isN (pv 1) pe_non (nomark _))
    (pss_one (ps_ret pe_str))
    pss_nil)
    (pss_one (ps_ret pe_str)))), ?_⟩
  refine ⟨_, rfl, v, i, xs, B, b, rfl, hi, ho, fun H1 s1 => ?_⟩
  have ret : i.vl 1 = true → ∀ (σ : L2.St) (H2 : Hp), σ[1]? = some (some V.non) → Same H1 H2 → Q (.str "") H2 := fun hv σ H2 _ s2 => by
    have := q H2 (s1.trans s2)
    rw [if_pos hv] at this
    exact this
  have exc : i.vl 1 = false → ∀ (H2 : Hp), Same H1 H2 → Q (.str ("raised " ++ "InvalidExpression")) H2 := fun hv H2 s2 => by
    have := q H2 (s1.trans s2)
    rw [if_neg (by rw [hv]; exact Bool.false_ne_true)] at this
    have e : (("raised " : Str) ++ ("InvalidExpression" : Str)) = ("raised InvalidExpression" : Str) := by decide +kernel
    rw [e]
    exact this
  have hi1 := hi.mono (Tp.same s1)
  have ex := exm_ref' (cls := .ref EX.c_InvalidExpression) EX.bC EX.i_ControlError EX.t_ControlError EX.s_ControlError
  refine ⟨b, rfl, ?_⟩
  cases b with
  | true =>
    refine iteT ⟨_, rfl, v, i, xs, B, true, rfl, hi1, ho, hxs, fun hv H2 s2 => ?_, fun hv H2 s2 => ?_⟩
    · refine ⟨_, rfl, rfl, _, rfl, ?_⟩
      exact ifT (decide_eq_true rfl) (ret hv [none, some .non] H2 rfl s2)
    · refine ⟨true, ex, fun _ a ha => ?_, fun h => nomatch h⟩
      refine ⟨_, rfl, rfl, rfl, rfl, fun H3 s3 => ?_⟩
      exact ⟨_, _, rfl, rfl, by decide +kernel, exc hv H3 (s2.trans s3)⟩
  | false =>
    refine iteF ⟨_, rfl, v, i, xs, B, false, rfl, hi1, ho, hxs, fun hv H2 s2 => ?_, fun hv H2 s2 => ?_⟩
    · refine ⟨_, rfl, rfl, _, rfl, ?_⟩
      exact ifT (decide_eq_true rfl) (ret hv [none, some .non] H2 rfl s2)
    · refine ⟨true, ex, fun _ a ha => ?_, fun h => nomatch h⟩
      refine ⟨_, rfl, rfl, rfl, rfl, fun H3 s3 => ?_⟩
      exact ⟨_, _, rfl, rfl, by decide +kernel, exc hv H3 (s2.trans s3)⟩
end
end NL

namespace NL
open PySem PySem.Spec PyProof.Rows L2
theorem nmOk_isN (z : Str) : nmOk z = isN z := by
  unfold nmOk isN
  have e : (z.cps.toList.all fun c => decide (97 ≤ c ∧ c ≤ 122)) = decide (rn lets (tl z) = (tl z).length) := by
    rw [Bool.eq_iff_iff, decide_eq_true_iff, List.all_eq_true]
    constructor
    · intro h
      exact rn_all fun c hc => in_lets.mpr (of_decide_eq_true (h c hc))
    · intro h c hc
      refine decide_eq_true ?_
      have key : ∀ l : List Nat, rn lets l = l.length → ∀ c ∈ l, c ∈ lets := by
        intro l
        induction l with
        | nil => intro _ c hc; cases hc
        | cons a r ih =>
          intro h c hc
          by_cases ha : a ∈ lets
          · rw [rn_in ha, List.length_cons] at h
            rcases List.mem_cons.mp hc with e | e
            · rw [e]; exact ha
            · exact ih (by omega) c e
          · rw [rn_out ha, List.length_cons] at h
            omega
      exact in_lets.mp (key _ h c hc)
  rw [e]
theorem nam_ok {z : Str} (h : Nam z) : isN z = true := by
  rw [← nmOk_isN]
  unfold nmOk
  have h1 : z ≠ "" := fun e => by
    have := h.len.1
    rw [e] at this
    exact absurd this (by decide +kernel)
  rw [decide_eq_true h1, decide_eq_true h.nr, Bool.true_and, Bool.true_and, List.all_eq_true]
  exact fun c hc => decide_eq_true (h.wd c hc)
mutual
theorem gd_le : ∀ i : It, i.gd ≤ 1000000
  | .num _ => by simp [It.gd]
  | .name x => by simp only [It.gd]; split <;> omega
  | .lit _ => by simp [It.gd]
  | .un _ a => by simp only [It.gd]; exact gd_le a
  | .dm _ a _ => by have := gd_le a; simp only [It.gd]; omega
  | .bin _ a b => by have := gd_le a; simp only [It.gd]; omega
  | .tri a b c => by have := gd_le a; simp only [It.gd]; omega
  | .grp _ l => by simp only [It.gd]; exact gdL_le l
theorem gdL_le : ∀ l : List It, gdL l ≤ 1000000
  | [] => by simp [gdL]
  | a :: r => by have := gd_le a; simp only [gdL]; omega
end
mutual
theorem vl_gd : ∀ (t : Nat) (i : It), i.vl t = true → i.gd = 1000000 ∧ t + i.dep ≤ 13
  | t, .num _, h => by
    simp only [It.vl, decide_eq_true_iff] at h
    exact ⟨by rw [It.gd], by rw [It.dep]; omega⟩
  | t, .name x, h => by
    simp only [It.vl, Bool.and_eq_true, decide_eq_true_iff] at h
    simp only [It.gd, It.dep]
    rw [nmOk_isN, if_pos h.2]; omega
  | t, .lit _, h => by
    simp only [It.vl, decide_eq_true_iff] at h
    exact ⟨by rw [It.gd], by rw [It.dep]; omega⟩
  | t, .un _ a, h => by
    simp only [It.vl, Bool.and_eq_true, decide_eq_true_iff] at h
    have := vl_gd (t + 1) a h.2
    simp only [It.gd, It.dep]; omega
  | t, .dm _ a n, h => by
    simp only [It.vl, Bool.and_eq_true, decide_eq_true_iff] at h
    have := vl_gd (t + 1) a h.2.2
    simp only [It.gd, It.dep]; omega
  | t, .bin _ a b, h => by
    simp only [It.vl, Bool.and_eq_true, decide_eq_true_iff] at h
    have := vl_gd (t + 1) a h.2.1
    have := vl_gd (t + 1) b h.2.2
    simp only [It.gd, It.dep]; omega
  | t, .tri a b c, h => by
    simp only [It.vl, Bool.and_eq_true, decide_eq_true_iff] at h
    have := vl_gd (t + 1) a h.2.1
    have := vl_gd (t + 1) b h.2.2.1
    have := vl_gd (t + 1) c h.2.2.2
    simp only [It.gd, It.dep]; omega
  | t, .grp _ l, h => by
    simp only [It.vl, Bool.and_eq_true, decide_eq_true_iff] at h
    have := vlL_gd (t + 1) l h.2
    simp only [It.gd, It.dep]; omega
theorem vlL_gd : ∀ (t : Nat) (l : List It), vlL t l = true → gdL l = 1000000 ∧ (t + depL l ≤ 13 ∨ depL l = 0)
  | t, [], h => by simp [gdL, depL]
  | t, a :: r, h => by
    simp only [vlL, Bool.and_eq_true] at h
    have := vl_gd t a h.1
    have := vlL_gd t r h.2
    simp only [gdL, depL]; omega
end
theorem vl_bad {i : It} (t : Nat) (h : i.gd < 1000000 ∨ 13 < t + i.dep) : i.vl t = false := by
  cases e : i.vl t with
  | false => rfl
  | true =>
    have := vl_gd t i e
    omega
theorem lo_even {B : Nat} (h : B % 2 = 0) : lo B = 1 := if_pos h
theorem lo_odd {B : Nat} (h : B % 2 = 0) : lo (B + 1) = -(B : Int) - 2 := by
  unfold lo
  rw [if_neg (by omega)]
  omega
theorem vl_ok {xs : List Str} {B : Nat} (hB : B % 2 = 0) (hx : ∀ x ∈ xs, isN x = true) {b : Bool} {i : It} (h : Okx xs B b i) : ∀ t, t + i.dep ≤ 13 → i.vl t = true := by
  induction h with
  | num _ => intro t h; simp only [It.dep] at h; simp only [It.vl, decide_eq_true_iff]; omega
  | name hn => intro t h; simp only [It.dep] at h; simp only [It.vl, hx _ hn, Bool.and_true, decide_eq_true_iff]; omega
  | lit => intro t h; simp only [It.dep] at h; simp only [It.vl, decide_eq_true_iff]; omega
  | abs h ih => intro t h; simp only [It.dep] at h; simp only [It.vl, ih (t + 1) (by omega), Bool.and_true, decide_eq_true_iff]; omega
  | not h ih => intro t h; simp only [It.dep] at h; simp only [It.vl, ih (t + 1) (by omega), Bool.and_true, decide_eq_true_iff]; omega
  | dm hw h h1 h2 ih =>
    intro t h
    rw [lo_even hB] at h1
    simp only [It.dep] at h
    simp only [It.vl, ih (t + 1) (by omega), decide_eq_true h1, Bool.and_true, decide_eq_true_iff]; omega
  | bin hw h g ih jh => intro t h; simp only [It.dep] at h; simp only [It.vl, ih (t + 1) (by omega), jh (t + 1) (by omega), Bool.and_true, decide_eq_true_iff]; omega
  | cmp hw h g ih jh => intro t h; simp only [It.dep] at h; simp only [It.vl, ih (t + 1) (by omega), jh (t + 1) (by omega), Bool.and_true, decide_eq_true_iff]; omega
  | tri h g l ih jh lh => intro t h; simp only [It.dep] at h; simp only [It.vl, ih (t + 1) (by omega), jh (t + 1) (by omega), lh (t + 1) (by omega), Bool.and_true, decide_eq_true_iff]; omega
  | grp hw hl h ih =>
    intro t h
    simp only [It.dep] at h
    rw [It.vl, Bool.and_eq_true]
    refine ⟨decide_eq_true (by omega), vlL_in.mpr fun i hi => ih i hi (t + 1) ?_⟩
    have := depL_in hi
    omega
/-- over more names, with any divisors -/
theorem okx_odd {xs ys : List Str} {B : Nat} (hB : B % 2 = 0) (hx : ∀ x ∈ xs, x ∈ ys) {b : Bool} {i : It} (h : Okx xs B b i) : Okx ys (B + 1) b i := by
  induction h with
  | num h => exact .num (by omega)
  | name h => exact .name (hx _ h)
  | lit => exact .lit
  | abs h ih => exact .abs ih
  | not h ih => exact .not ih
  | dm hw h h1 h2 ih =>
    rw [lo_even hB] at h1
    exact .dm hw ih (by rw [lo_odd hB]; omega) (by omega)
  | bin hw h g ih jh => exact .bin hw ih jh
  | cmp hw h g ih jh => exact .cmp hw ih jh
  | tri h g l ih jh lh => exact .tri ih jh lh
  | grp hw hl h ih => exact .grp hw hl ih
/-- a text in which a sign stands that is no letter -/
theorem no_name {z : Str} {c : Nat} (h : c ∈ z.cps.toList) (hc : ¬ (97 ≤ c ∧ c ≤ 122)) : nmOk z = false := by
  unfold nmOk
  have e : (z.cps.toList.all fun c => decide (97 ≤ c ∧ c ≤ 122)) = false := by
    rw [List.all_eq_false]
    exact ⟨c, h, by rw [decide_eq_false hc]; exact Bool.false_ne_true⟩
  rw [e, Bool.and_false, Bool.and_false]
theorem cut_len (z : Str) (a b : Option Int) : (cutS z a b).length ≤ z.length := by
  show (List.toArray _).size ≤ _
  rw [List.size_toArray, List.length_take, List.length_drop, len_list]
  omega
end NL

namespace NL
open PySem PySem.Spec PyProof.Rows L2
theorem cds {H : Hp} {p : It → Prop} : ∀ vs : List V, (∀ v ∈ vs, ∃ i, ItemIn H i v ∧ p i) → ∃ l, Kids H l vs ∧ ∀ i ∈ l, p i
  | [], _ => ⟨[], kids0, fun i h => by cases h⟩
  | v :: r, h => by
    obtain ⟨i, hi, hp⟩ := h v List.mem_cons_self
    obtain ⟨l, hl, hl2⟩ := cds r fun u hu => h u (List.mem_cons_of_mem _ hu)
    refine ⟨i :: l, .cons hi hl, fun j hj => ?_⟩
    rcases List.mem_cons.mp hj with e | e
    · rw [e]; exact hp
    · exact hl2 j e
theorem cds_mark {H : Hp} {p : It → Prop} {v0 : V} {i0 : It} (h0 : ItemIn H i0 v0) (hp0 : p i0) : ∀ vs : List V, (∀ v ∈ vs, ∃ i, ItemIn H i v ∧ p i) → v0 ∈ vs → ∃ l, Kids H l vs ∧ (∀ i ∈ l, p i) ∧ i0 ∈ l
  | v :: r, h, hm => by
    by_cases e : v = v0
    · subst e
      obtain ⟨l, hl, hl2⟩ := cds r fun u hu => h u (List.mem_cons_of_mem _ hu)
      refine ⟨i0 :: l, .cons h0 hl, fun j hj => ?_, List.mem_cons_self⟩
      rcases List.mem_cons.mp hj with e | e
      · rw [e]; exact hp0
      · exact hl2 j e
    · have hm' : v0 ∈ r := by
        rcases List.mem_cons.mp hm with z | z
        · exact absurd z.symm e
        · exact z
      obtain ⟨i, hi, hp⟩ := h v List.mem_cons_self
      obtain ⟨l, hl, hl2, hl3⟩ := cds_mark h0 hp0 r (fun u hu => h u (List.mem_cons_of_mem _ hu)) hm'
      refine ⟨i :: l, .cons hi hl, fun j hj => ?_, List.mem_cons_of_mem _ hl3⟩
      rcases List.mem_cons.mp hj with e | e
      · rw [e]; exact hp
      · exact hl2 j e
theorem gdL_in {j : It} : ∀ {l : List It}, j ∈ l → gdL l ≤ j.gd
  | a :: r, h => by
    rw [gdL]
    rcases List.mem_cons.mp h with e | e
    · rw [e]; omega
    · have := gdL_in e
      omega
theorem cut_sub {xs : List V} {a b : Option Int} : (∀ x ∈ cutV xs a b, x ∈ xs) ∧ (cutV xs a b).length ≤ xs.length := by
  unfold cutV
  exact ⟨fun x h => List.mem_of_mem_drop (List.mem_of_mem_take h), by rw [List.length_take, List.length_drop]; omega⟩
section
variable {P : Program} {w : World} {K : PySem.W.Frag} {mg : Str → Option Value} {base : Heap}
/-! ### _law_no_word -/
def spNoWord : Sp := fun vs H Q _ => ∃ d : Addr, vs = [.ref d] ∧ Dr H d ∧ ∀ z H', Go d H H' → nmOk z = false → z.length ≤ 500 → Q (.str z) H'
theorem ok_law_no_word (T : Txt K mg) : FnOk P w K mg base CX0 3 T.a_law_no_word T.d_law_no_word P_law_no_word spNoWord := by
  have G_law_take := ok_law_take (P := P) (w := w) (base := base) T
  have G_law_some_word := ok_law_some_word (P := P) (w := w) (base := base) T
  refine T.F_law_no_word.ok sc_law_no_word (fun vs H Q E h => ?_) (fun cdv A outer s H vs Q E hr h => ?_)
  · obtain ⟨d, rfl, _⟩ := h
    rfl
  obtain ⟨d, rfl, hD, q⟩ := h
  refine ⟨_, (pss_cons (ps_set (i := 1) sc_law_no_word.nd rfl (Or.inl rfl) (pe_call G_law_some_word (hr.mono (by omega)) (by rfl) T.m_law_some_word T.F_law_some_word.kp T.b_law_some_word .nil pass0 (pa_cons (pv 0) pa_nil)))
    (pss_cons (ps_set (i := 2) sc_law_no_word.nd rfl (Or.inl rfl) (pe_call G_law_take (hr.mono (by omega)) (by rfl) T.m_law_take T.F_law_take.kp T.b_law_take .nil pass0 (pa_cons (pv 0) (pa_cons pe_int pa_nil))))
    (pss_cons (ps_if (pt_cmpR op_eq (pv 2) pe_int (nomark _))
    (pss_one (ps_ret pe_str))
    pss_nil)
    (C8.pss_cut (ps_if (pt_cmpR op_eq (pv 2) pe_int (nomark _))
    (pss_one (ps_set (i := 1) sc_law_no_word.nd rfl (Or.inl rfl) pe_str))
    pss_nil)
    (pss_cons (ps_set (i := 3) sc_law_no_word.nd rfl (Or.inl rfl) pe_str)
    (pss_cons (ps_set (i := 4) sc_law_no_word.nd rfl (Or.inl rfl) (pe_call G_law_take (hr.mono (by omega)) (by rfl) T.m_law_take T.F_law_take.kp T.b_law_take .nil pass0 (pa_cons (pv 0) (pa_cons (pe_op op_add (pe_callB call_len_str (by rfl) T.z_len PySem.boot_len (pa_cons (pv 1) pa_nil)) pe_int) pa_nil))))
    (pss_one (ps_ret (pe_op op_add_str (pe_op op_add_str (pe_slice sl_str (pv 1) po_none (po_some (pv 4))) (pe_ix ix_str (pv 3) (pe_call G_law_take (hr.mono (by omega)) (by rfl) T.m_law_take T.F_law_take.kp T.b_law_take .nil pass0 (pa_cons (pv 0) (pa_cons pe_int pa_nil))) (fun _ _ => rfl))) (pe_slice sl_str (pv 1) (po_some (pv 4)) po_none)))))))))), ?_⟩
  refine ⟨_, rfl, d, rfl, hD, fun z0 H1 g1 hz0 => ?_⟩
  refine ⟨_, rfl, d, _, rfl, g1.dr, (by decide), fun n H2 g2 n0 n1 => ?_⟩
  refine ⟨_, rfl, rfl, _, rfl, ?_⟩
  refine ite2 (fun c => ?_) (fun c => ?_)
  · exact q "" H2 (g1.trans g2) (by decide +kernel) (by decide +kernel)
  refine ⟨fun σ H' => ∃ z : Str, σ = [some (.ref d), some (.str z), some (.int n), none, none] ∧ Go d H H' ∧ z.length ≤ 200, ?_, ?_⟩
  · refine ⟨_, rfl, rfl, _, rfl, ?_⟩
    refine ite2 (fun c2 => ?_) (fun c2 => ?_)
    · exact ⟨"", rfl, g1.trans g2, by decide +kernel⟩
    · exact ⟨z0, rfl, g1.trans g2, by have := hz0.len; omega⟩
  rintro σ H3 ⟨z, rfl, g3, hz⟩
  have hzl : z.length ≤ sizeLine := Nat.le_of_lt (small1000 (by omega))
  refine ⟨_, rfl, _, rfl, z, rfl, hzl, _, _, rfl, rfl, d, _, rfl, g3.dr, (by omega), fun at_ H4 g4 a0 a1 => ?_⟩
  have ch70 : (" !\"#$&'()*+,-./0123456789:;<=>?@ABCDEFGHIJKLMNOPQRSTUVWXYZ[\\]^_`{|}~\n\t" : Str).cps.toList.length = 70 := by decide +kernel
  have chno : ∀ c ∈ (" !\"#$&'()*+,-./0123456789:;<=>?@ABCDEFGHIJKLMNOPQRSTUVWXYZ[\\]^_`{|}~\n\t" : Str).cps.toList, ¬ (97 ≤ c ∧ c ≤ 122) := by decide +kernel
  refine ⟨_, rfl, _, rfl, at_, rfl, z, rfl, hzl, ?_⟩
  refine ⟨_, rfl, _, rfl, d, _, rfl, g4.dr, (by decide), fun k H5 g5 k0 k1 => ?_⟩
  obtain ⟨ch, hch, hm⟩ := atI_mem (xs := (" !\"#$&'()*+,-./0123456789:;<=>?@ABCDEFGHIJKLMNOPQRSTUVWXYZ[\\]^_`{|}~\n\t" : Str).cps.toList) k0 (by rw [ch70]; exact k1)
  refine ⟨_, _, ch, rfl, rfl, by decide +kernel, hch, ?_⟩
  have l1 := cut_len z none (some at_)
  have l2 := cut_len z (some at_) none
  have lc : (⟨#[ch]⟩ : Str).length = 1 := rfl
  refine ⟨_, _, rfl, rfl, Nat.le_of_lt (small1000 (by omega)), ?_⟩
  refine ⟨_, rfl, _, rfl, at_, rfl, z, rfl, hzl, ?_⟩
  refine ⟨_, _, rfl, rfl, Nat.le_of_lt (small1000 (by rw [len_app]; omega)), ?_⟩
  refine q _ H5 (g3.trans (g4.trans g5)) (no_name (c := ch) ?_ (chno ch hm)) (by rw [len_app, len_app]; omega)
  rw [app_list, app_list]
  simp
/-! ### _law_bad -/
def spBad (K : PySem.W.Frag) (B : Nat) : Sp := fun vs H Q _ => ∃ (d n : Addr) (xs : List Str) (c : Int), vs = [.ref d, .ref n, .int c] ∧ Dr H d ∧ Keep K d H n (xs.map V.str) ∧ c.natAbs ≤ B ∧ (∀ x ∈ xs, x.length ≤ 500) ∧
  ∀ v i b ys H', Go d H H' → ItemIn H' i v → Okx ys (B + 1) b i → (∀ x ∈ xs, x ∈ ys) → (∀ x ∈ ys, x.length ≤ 500) → i.dep ≤ 6 → i.gd = 0 → Q v H'
theorem ok_law_bad {B : Nat} (hB : 100 ≤ B) (hB2 : B % 2 = 0) (T : Txt K mg) : FnOk P w K mg base CX0 5 T.a_law_bad T.d_law_bad P_law_bad (spBad K B) := by
  have G_law_take := ok_law_take (P := P) (w := w) (base := base) T
  have G_law_leaf := ok_law_leaf (P := P) (w := w) (base := base) hB T
  have G_law_reserved := ok_law_reserved (P := P) (w := w) (base := base) T
  have G_law_no_word := ok_law_no_word (P := P) (w := w) (base := base) T
  refine T.F_law_bad.ok sc_law_bad (fun vs H Q E h => ?_) (fun cdv A outer s H vs Q E hr h => ?_)
  · obtain ⟨d, n, xs, c, rfl, _⟩ := h
    rfl
  obtain ⟨d, n, xs, c, rfl, hD, hk, hc, hxl, q⟩ := h
  refine ⟨_, (pss_cons (ps_set (i := 3) sc_law_bad.nd rfl (Or.inl rfl) (pe_call G_law_leaf (hr.mono (by omega)) (by rfl) T.m_law_leaf T.F_law_leaf.kp T.b_law_leaf .nil pass0 (pa_cons (pv 0) (pa_cons (pv 1) (pa_cons (pv 2) pa_nil)))))
    (pss_cons (ps_set (i := 4) sc_law_bad.nd rfl (Or.inl rfl) (pe_call0 G_law_reserved (hr.mono (by omega)) (by rfl) T.m_law_reserved T.F_law_reserved.kp T.b_law_reserved .nil pass0))
    (pss_cons (ps_set (i := 5) sc_law_bad.nd rfl (Or.inl rfl) (pe_ix ix_list (pe_lst (pa_cons (pe_call G_law_no_word (hr.mono (by omega)) (by rfl) T.m_law_no_word T.F_law_no_word.kp T.b_law_no_word .nil pass0 (pa_cons (pv 0) pa_nil)) (pa_cons (pe_ix ix_list (pv 4) (pe_call G_law_take (hr.mono (by omega)) (by rfl) T.m_law_take T.F_law_take.kp T.b_law_take .nil pass0 (pa_cons (pv 0) (pa_cons pe_int pa_nil))) (fun _ _ => rfl)) pa_nil))) (pe_call G_law_take (hr.mono (by omega)) (by rfl) T.m_law_take T.F_law_take.kp T.b_law_take .nil pass0 (pa_cons (pv 0) (pa_cons pe_int pa_nil))) (fun _ _ => rfl)))
    (pss_cons (ps_set (i := 6) sc_law_bad.nd rfl (Or.inl rfl) (pe_un un_neg (pe_ix ix_list (pe_lst (pa_cons pe_int (pa_cons (pe_call G_law_take (hr.mono (by omega)) (by rfl) T.m_law_take T.F_law_take.kp T.b_law_take .nil pass0 (pa_cons (pv 0) (pa_cons pe_int pa_nil))) (pa_cons (pe_callB (call_abs) (by rfl) T.z_abs (by decide +kernel) (pa_cons (pv 2) pa_nil)) pa_nil)))) (pe_call G_law_take (hr.mono (by omega)) (by rfl) T.m_law_take T.F_law_take.kp T.b_law_take .nil pass0 (pa_cons (pv 0) (pa_cons pe_int pa_nil))) (fun _ _ => rfl))))
    (pss_cons (ps_set (i := 7) sc_law_bad.nd rfl (Or.inl rfl) (pe_ix ix_list (pe_lst (pa_cons (pe_tup (pa_cons pe_str (pa_cons (pv 5) pa_nil))) (pa_cons (pe_tup (pa_cons pe_str (pa_cons (pv 3) (pa_cons (pv 6) pa_nil)))) (pa_cons (pe_tup (pa_cons pe_str (pa_cons (pv 3) (pa_cons (pv 6) pa_nil)))) pa_nil)))) (pe_call G_law_take (hr.mono (by omega)) (by rfl) T.m_law_take T.F_law_take.kp T.b_law_take .nil pass0 (pa_cons (pv 0) (pa_cons pe_int pa_nil))) (fun _ _ => rfl)))
    (pss_cons (ps_set (i := 8) sc_law_bad.nd rfl (Or.inl rfl) (pe_lst (pa_cons (pv 7) (pa_cons (pe_tup (pa_cons pe_str (pa_cons (pv 3) (pa_cons (pv 7) pa_nil)))) (pa_cons (pe_tup (pa_cons pe_str (pa_cons (pe_tup (pa_cons pe_str (pa_cons (pv 3) (pa_cons (pv 7) pa_nil)))) (pa_cons (pv 3) (pa_cons (pv 3) pa_nil))))) (pa_cons (pe_tup (pa_cons pe_str (pa_cons (pv 7) (pa_cons (pv 3) pa_nil)))) pa_nil))))))
    (pss_cons (ps_set (i := 9) sc_law_bad.nd rfl (Or.inl rfl) (pe_slice sl_list (pe_lst (pa_cons (pe_tup (pa_cons pe_str (pa_cons (pv 3) (pa_cons (pv 3) pa_nil)))) (pa_cons (pe_tup (pa_cons pe_str pa_nil)) (pa_cons (pe_tup (pa_cons pe_str (pa_cons (pe_tup pa_nil) pa_nil))) (pa_cons (pe_tup (pa_cons pe_str (pa_cons (pv 3) (pa_cons (pv 3) pa_nil)))) (pa_cons (pe_tup (pa_cons pe_str pa_nil)) pa_nil)))))) po_none (po_some (pe_call G_law_take (hr.mono (by omega)) (by rfl) T.m_law_take T.F_law_take.kp T.b_law_take .nil pass0 (pa_cons (pv 0) (pa_cons pe_int pa_nil))))))
    (pss_cons (ps_expr (pe_bm PySem.F.plainAttrs_list PySem.F.slot_list_insert PySem.F.type_list_insert mt_insert (pv 9) (pa_cons (pe_call G_law_take (hr.mono (by omega)) (by rfl) T.m_law_take T.F_law_take.kp T.b_law_take .nil pass0 (pa_cons (pv 0) (pa_cons (pe_op op_add (pe_callB call_len_seq (by rfl) T.z_len PySem.boot_len (pa_cons (pv 9) pa_nil)) pe_int) pa_nil))) (pa_cons (pe_tup (pa_cons pe_str (pa_cons (pe_tup (pa_cons pe_str (pa_cons (pv 3) (pa_cons (pv 7) pa_nil)))) pa_nil))) pa_nil))))
    (pss_one (ps_ret (pe_ix ix_list (pe_op op_cat (pv 8) (pe_lst (pa_cons (pe_tup (pa_cons (pe_ix ix_list (pe_lst (pa_cons pe_str (pa_cons pe_str pa_nil))) (pe_call G_law_take (hr.mono (by omega)) (by rfl) T.m_law_take T.F_law_take.kp T.b_law_take .nil pass0 (pa_cons (pv 0) (pa_cons pe_int pa_nil))) (fun _ _ => rfl)) (pa_cons (pe_callTy call_tuple_of (by rfl) T.z_tuple (by decide +kernel) (pa_cons (pv 9) pa_nil)) pa_nil))) pa_nil))) (pe_call G_law_take (hr.mono (by omega)) (by rfl) T.m_law_take T.F_law_take.kp T.b_law_take .nil pass0 (pa_cons (pv 0) (pa_cons pe_int pa_nil))) (fun _ _ => rfl)))))))))))), ?_⟩
  refine ⟨_, rfl, _, rfl, _, rfl, d, n, xs, c, rfl, hD, hk, hc, fun lv li H1 g1 hli hlo hld hlz => ?_⟩
  refine ⟨rfl, fun p2 H2 s2 hp2 e2 => ?_⟩
  have g2 := Go.same g1.dr s2
  have n2 : p2 ≠ d := new_ne g1.dr hp2
  -- the name
  refine ⟨_, rfl, d, rfl, g2.dr, fun z H3 g3 hz hzl => ?_⟩
  refine ⟨_, rfl, _, rfl, d, _, rfl, g3.dr, (by decide), fun u H4 g4 u0 u1 => ?_⟩
  obtain ⟨rw_, hrw, hmrw⟩ := atI_map (f := V.str) (xs := res) u0 u1
  have e4 := (g3.trans g4).fr p2 _ n2 e2
  refine ⟨p2, _, _, _, rfl, rfl, sqd e4, hrw, (Nat.le_of_ble_eq_true rfl), fun p5 hp5 => ?_⟩
  have g5 := fun o => Go.new (o := o) g4.dr hp5
  refine ⟨_, rfl, d, _, rfl, (g5 _).dr, (by decide), fun u2 H6 g6 u20 u21 => ?_⟩
  obtain ⟨nm, hnm, hmnm⟩ := atI_map (f := V.str) (xs := [z, rw_]) u20 u21
  refine ⟨_, _, _, _, rfl, rfl, sqd (g6.at g4.dr hp5), hnm, ?_⟩
  have hnm2 : nmOk nm = false ∧ nm.length ≤ 500 := by
    rcases List.mem_cons.mp hmnm with e | e
    · rw [e]; exact ⟨hz, hzl⟩
    · have e := List.mem_singleton.mp e
      rw [e]
      have hlen : ∀ x ∈ res, x.length ≤ 500 := by decide +kernel
      refine ⟨?_, hlen _ hmrw⟩
      unfold nmOk
      rw [show decide (rw_ ∉ res) = false from decide_eq_false (fun h => h hmrw), Bool.false_and, Bool.and_false]
  have g06 := g1.trans (g2.trans (g3.trans (g4.trans ((g5 (.lst [.str z, .str rw_])).trans g6))))
  have hli6 := hli.go (g2.trans (g3.trans (g4.trans ((g5 (.lst [.str z, .str rw_])).trans g6)))) g1.dr
  -- low
  refine ⟨_, rfl, d, _, rfl, g6.dr, (by decide), fun r H7 g7 r0 r1 => ?_⟩
  refine ⟨_, rfl, _, rfl, (Nat.le_of_ble_eq_true rfl), fun p8 hp8 => ?_⟩
  have g8 := fun o => Go.new (o := o) g7.dr hp8
  refine ⟨_, rfl, d, _, rfl, (g8 _).dr, (by decide), fun u3 H9 g9 u30 u31 => ?_⟩
  obtain ⟨m, hm, hmm⟩ := atI_map (f := V.int) (xs := [0, r, if c < 0 then -c else c]) u30 u31
  have hmb : 0 ≤ m ∧ m.natAbs ≤ B := by
    simp only [List.mem_cons, List.not_mem_nil, or_false] at hmm
    rcases hmm with h | h | h
    · omega
    · omega
    · split at h <;> omega
  refine ⟨_, _, _, _, rfl, rfl, sqd (g9.at g7.dr hp8), hm, _, rfl, ?_⟩
  have g69 := g7.trans ((g8 (.lst [.int 0, .int r, .int (if c < 0 then -c else c)])).trans g9)
  have g09 := g06.trans g69
  have hli9 := hli6.go g69 g6.dr
  -- the spot
  refine ⟨_, rfl, (Nat.le_of_ble_eq_true rfl), fun a1 h1 => ⟨_, rfl, _, rfl, (Nat.le_of_ble_eq_true rfl), fun a2 h2 => ⟨_, rfl, _, rfl, (Nat.le_of_ble_eq_true rfl), fun a3 h3 => ⟨(Nat.le_of_ble_eq_true rfl), fun p10 hp10 => ?_⟩⟩⟩⟩
  have m1 := fun o => same_new h1 o
  have m2 := fun o => same_new h2 o
  have m3 := fun o => same_new h3 o
  have m4 := fun o => same_new hp10 o
  have s4 := fun o => (((m1 (.tup [.str "name", .str nm])).trans (m2 (.tup [.str "div", lv, .int (-m)]))).trans (m3 (.tup [.str "mod", lv, .int (-m)]))).trans (m4 o)
  have g10 := fun o => Go.same g9.dr (s4 o)
  have hys : ∀ x ∈ xs, x ∈ nm :: xs := fun x h => List.mem_cons_of_mem _ h
  have hyl : ∀ x ∈ nm :: xs, x.length ≤ 500 := fun x h => by
    rcases List.mem_cons.mp h with e | e
    · rw [e]; exact hnm2.2
    · exact hxl x e
  have olf : Okx (nm :: xs) (B + 1) false li := okx_odd hB2 hys hlo
  have hdm : ∀ w ∈ (["div", "mod"] : List Str), Okx (nm :: xs) (B + 1) false (.dm w li (-m)) := fun w hw => .dm hw olf (by rw [lo_odd hB2]; omega) (by omega)
  have hlg := gd_le li
  have hli10 := hli9.mono (Tp.same (s4 (.lst [.ref a1, .ref a2, .ref a3])))
  have sps : ∀ v ∈ [V.ref a1, .ref a2, .ref a3], ∃ si, ItemIn (upd (upd (upd (upd H9 a1 (.tup [.str "name", .str nm])) a2 (.tup [.str "div", lv, .int (-m)])) a3 (.tup [.str "mod", lv, .int (-m)])) p10 (.lst [.ref a1, .ref a2, .ref a3])) si v ∧ Okx (nm :: xs) (B + 1) false si ∧ si.dep ≤ 2 ∧ si.gd = 0 := by
    intro v hv
    simp only [List.mem_cons, List.not_mem_nil, or_false] at hv
    rcases hv with h | h | h
    · rw [h]; exact ⟨.name nm, .name (m4 _ _ _ (m3 _ _ _ (m2 _ _ _ upd_same))), .name List.mem_cons_self, by simp [It.dep], by simp only [It.gd]; rw [hnm2.1, if_neg Bool.false_ne_true]⟩
    · rw [h]; exact ⟨.dm "div" li (-m), .dm (m4 _ _ _ (m3 _ _ _ upd_same)) hli10, hdm _ (by decide +kernel), by simp only [It.dep]; omega, by simp only [It.gd]; omega⟩
    · rw [h]; exact ⟨.dm "mod" li (-m), .dm (m4 _ _ _ upd_same) hli10, hdm _ (by decide +kernel), by simp only [It.dep]; omega, by simp only [It.gd]; omega⟩
  refine ⟨_, rfl, d, _, rfl, (g10 _).dr, (by decide), fun u4 Hb gb u40 u41 => ?_⟩
  obtain ⟨sv, hsv, hmsv⟩ := atI_mem (xs := [V.ref a1, .ref a2, .ref a3]) u40 u41
  refine ⟨_, _, _, _, rfl, rfl, sqd (gb.fr p10 _ (new_ne (Go.same g9.dr (((m1 (.tup [.str "name", .str nm])).trans (m2 (.tup [.str "div", lv, .int (-m)]))).trans (m3 (.tup [.str "mod", lv, .int (-m)])))).dr hp10) upd_same), hsv, ?_⟩
  obtain ⟨si, hsi0, hso, hsd, hsg⟩ := sps sv hmsv
  have hsi := hsi0.go gb (g10 _).dr
  have hlib := hli10.go gb (g10 _).dr
  have g0b := g09.trans ((g10 _).trans gb)
  clear sps hsi0 hli10 m1 m2 m3 m4 s4 hnm hrw e4
  -- found
  refine ⟨_, rfl, _, rfl, _, rfl, (Nat.le_of_ble_eq_true rfl), fun b1 hb1 => ⟨_, rfl, _, rfl, (Nat.le_of_ble_eq_true rfl), fun b2 hb2 => ⟨_, rfl, _, rfl, (Nat.le_of_ble_eq_true rfl), fun b3 hb3 => ⟨_, rfl, _, rfl, (Nat.le_of_ble_eq_true rfl), fun b4 hb4 => ⟨(Nat.le_of_ble_eq_true rfl), fun pf hpf => ?_⟩⟩⟩⟩⟩
  have m1 := fun o => same_new hb1 o
  have m2 := fun o => same_new hb2 o
  have m3 := fun o => same_new hb3 o
  have m4 := fun o => same_new hb4 o
  have m5 := fun o => same_new hpf o
  have sf := fun o => ((((m1 (.tup [.str "add", lv, sv])).trans (m2 (.tup [.str "equal", lv, sv]))).trans (m3 (.tup [.str "if", .ref b2, lv, lv]))).trans (m4 (.tup [.str "less", sv, lv]))).trans (m5 o)
  have npf : pf ≠ d := new_ne (Go.same gb.dr ((((m1 (.tup [.str "add", lv, sv])).trans (m2 (.tup [.str "equal", lv, sv]))).trans (m3 (.tup [.str "if", .ref b2, lv, lv]))).trans (m4 (.tup [.str "less", sv, lv])))).dr hpf
  have gf := Go.same gb.dr (sf (.lst [sv, .ref b1, .ref b3, .ref b4]))
  have hsif := hsi.mono (Tp.same (sf (.lst [sv, .ref b1, .ref b3, .ref b4])))
  have hlif := hlib.mono (Tp.same (sf (.lst [sv, .ref b1, .ref b3, .ref b4])))
  have bads : ∀ v ∈ [sv, V.ref b1, .ref b3, .ref b4], ∃ b i, ItemIn (upd (upd (upd (upd (upd Hb b1 (.tup [.str "add", lv, sv])) b2 (.tup [.str "equal", lv, sv])) b3 (.tup [.str "if", .ref b2, lv, lv])) b4 (.tup [.str "less", sv, lv])) pf (.lst [sv, .ref b1, .ref b3, .ref b4])) i v ∧ Okx (nm :: xs) (B + 1) b i ∧ i.dep ≤ 4 ∧ i.gd = 0 := by
    intro v hv
    simp only [List.mem_cons, List.not_mem_nil, or_false] at hv
    rcases hv with h | h | h | h
    · rw [h]; exact ⟨_, si, hsif, hso, by omega, hsg⟩
    · rw [h]; exact ⟨_, .bin "add" li si, .bin (m5 _ _ _ (m4 _ _ _ (m3 _ _ _ (m2 _ _ _ upd_same)))) hlif hsif, .bin (by decide +kernel) olf hso, by simp only [It.dep]; omega, by simp only [It.gd]; omega⟩
    · rw [h]; exact ⟨_, .tri (.bin "equal" li si) li li, .tri (m5 _ _ _ (m4 _ _ _ upd_same)) (.bin (m5 _ _ _ (m4 _ _ _ (m3 _ _ _ upd_same))) hlif hsif) hlif hlif, .tri (.cmp (by decide +kernel) olf hso) olf olf, by simp only [It.dep]; omega, by simp only [It.gd]; omega⟩
    · rw [h]; exact ⟨_, .bin "less" si li, .bin (m5 _ _ _ upd_same) hsif hlif, .cmp (by decide +kernel) hso olf, by simp only [It.dep]; omega, by simp only [It.gd]; omega⟩
  generalize hHf : upd _ pf (HO.lst [sv, V.ref b1, V.ref b3, V.ref b4]) = Hf at gf hsif hlif bads ⊢
  have ef : Hf pf = some (.lst [sv, .ref b1, .ref b3, .ref b4]) := by rw [← hHf]; exact upd_same
  have g0f := g0b.trans gf
  clear hHf sf m1 m2 m3 m4 m5
  -- parts
  refine ⟨_, rfl, _, rfl, (Nat.le_of_ble_eq_true rfl), fun c1 hc1 => ⟨(Nat.le_of_ble_eq_true rfl), fun c2 hc2 => ⟨(Nat.le_of_ble_eq_true rfl), fun c3 hc3 => ⟨(Nat.le_of_ble_eq_true rfl), fun c4 hc4 => ⟨_, rfl, _, rfl, (Nat.le_of_ble_eq_true rfl), fun c5 hc5 => ⟨(Nat.le_of_ble_eq_true rfl), fun c6 hc6 => ⟨(Nat.le_of_ble_eq_true rfl), fun pl hpl => ?_⟩⟩⟩⟩⟩⟩⟩
  have k1 := fun o => same_new hc1 o
  have k2 := fun o => same_new hc2 o
  have k3 := fun o => same_new hc3 o
  have k4 := fun o => same_new hc4 o
  have k5 := fun o => same_new hc5 o
  have k6 := fun o => same_new hc6 o
  have k7 := fun o => same_new hpl o
  have sl6 := (((((k1 (.tup [.str "less", lv, lv])).trans (k2 (.tup [.str "true"]))).trans (k3 (.tup []))).trans (k4 (.tup [.str "all", .ref c3]))).trans (k5 (.tup [.str "equal", lv, lv]))).trans (k6 (.tup [.str "false"]))
  have sl := sl6.trans (k7 (.lst [.ref c1, .ref c2, .ref c4, .ref c5, .ref c6]))
  have gl := Go.same gf.dr sl
  have npl : pl ≠ d := new_ne (Go.same gf.dr sl6).dr hpl
  have hlil := hlif.mono (Tp.same sl)
  have lld := hld
  have cons0 : ∀ v ∈ [V.ref c1, .ref c2, .ref c4, .ref c5, .ref c6], ∃ i, ItemIn (upd (upd (upd (upd (upd (upd (upd Hf c1 (.tup [.str "less", lv, lv])) c2 (.tup [.str "true"])) c3 (.tup [])) c4 (.tup [.str "all", .ref c3])) c5 (.tup [.str "equal", lv, lv])) c6 (.tup [.str "false"])) pl (.lst [.ref c1, .ref c2, .ref c4, .ref c5, .ref c6])) i v ∧ (Okx (nm :: xs) (B + 1) true i ∧ i.dep ≤ 4) := by
    intro v hv
    simp only [List.mem_cons, List.not_mem_nil, or_false] at hv
    rcases hv with h | h | h | h | h
    · rw [h]; exact ⟨.bin "less" li li, .bin (k7 _ _ _ (k6 _ _ _ (k5 _ _ _ (k4 _ _ _ (k3 _ _ _ (k2 _ _ _ upd_same)))))) hlil hlil, .cmp (by decide +kernel) olf olf, by simp only [It.dep]; omega⟩
    · rw [h]; exact ⟨.lit true, .lit (k7 _ _ _ (k6 _ _ _ (k5 _ _ _ (k4 _ _ _ (k3 _ _ _ upd_same))))), .lit, by simp [It.dep]⟩
    · rw [h]; exact ⟨.grp "all" [], .grp (k7 _ _ _ (k6 _ _ _ (k5 _ _ _ upd_same))) (k7 _ _ _ (k6 _ _ _ (k5 _ _ _ (k4 _ _ _ upd_same)))) rfl (fun k i x hk _ => by simp at hk), .grp (by decide +kernel) (Nat.le_of_ble_eq_true rfl) (fun i hi => nomatch hi), by simp [It.dep, depL]⟩
    · rw [h]; exact ⟨.bin "equal" li li, .bin (k7 _ _ _ (k6 _ _ _ upd_same)) hlil hlil, .cmp (by decide +kernel) olf olf, by simp only [It.dep]; omega⟩
    · rw [h]; exact ⟨.lit false, .lit (k7 _ _ _ upd_same), .lit, by simp [It.dep]⟩
  generalize hHl : upd _ pl (HO.lst [V.ref c1, V.ref c2, V.ref c4, V.ref c5, V.ref c6]) = Hl at gl hlil cons0 ⊢
  have el : Hl pl = some (.lst [.ref c1, .ref c2, .ref c4, .ref c5, .ref c6]) := by rw [← hHl]; exact upd_same
  have hsil := hsif.go gl gf.dr
  have g0l := g0f.trans gl
  clear hHl sl sl6 k1 k2 k3 k4 k5 k6 k7
  refine ⟨_, rfl, d, _, rfl, gl.dr, (by decide), fun k6 He ge k0 k1 => ?_⟩
  refine ⟨_, rfl, pl, _, rfl, sqd (ge.fr pl _ npl el), fun pp hpp => ?_⟩
  have npp : pp ≠ d := new_ne ge.dr hpp
  have gp := fun o => Go.new (o := o) ge.dr hpp
  obtain ⟨csub, clen⟩ := cut_sub (xs := [V.ref c1, .ref c2, .ref c4, .ref c5, .ref c6]) (a := none) (b := some k6)
  generalize hcx : cutV [V.ref c1, .ref c2, .ref c4, .ref c5, .ref c6] none (some k6) = cx at csub clen ⊢
  have clen5 : cx.length ≤ 5 := clen
  have gle := fun o => ge.trans (gp o)
  have consP : ∀ v ∈ cx, ∃ i, ItemIn (upd He pp (.lst cx)) i v ∧ (Okx (nm :: xs) (B + 1) true i ∧ i.dep ≤ 4) := fun v hv => by
    obtain ⟨i, h1, h2⟩ := cons0 v (csub v hv)
    exact ⟨i, h1.go (gle _) gl.dr, h2⟩
  have hsip := hsil.go (gle (.lst cx)) gl.dr
  have hlip := hlil.go (gle (.lst cx)) gl.dr
  have efp := (gle (.lst cx)).fr pf _ npf (by
    have := gl.fr pf _ npf ef
    exact this)
  have g0p := g0l.trans (gle (.lst cx))
  -- insert
  refine ⟨_, rfl, .inl ⟨rfl, _, sqd upd_same⟩, ?_⟩
  refine ⟨_, rfl, _, rfl, pp, _, rfl, .inl (sqd upd_same), _, _, rfl, rfl, d, _, rfl, (gp _).dr, (by omega), fun at6 Hg gg a60 a61 => ?_⟩
  refine ⟨_, rfl, _, rfl, (Nat.le_of_ble_eq_true rfl), fun e1 he1 => ⟨(Nat.le_of_ble_eq_true rfl), fun e2 he2 => ?_⟩⟩
  have j1 := fun o => same_new he1 o
  have j2 := fun o => same_new he2 o
  have sj := fun o => (j1 (.tup [.str "equal", lv, sv])).trans (j2 o)
  have egp := gg.fr pp _ npp upd_same
  have egp2 := sj (.tup [.str "not", .ref e1]) _ _ egp
  have gj := gg.trans (Go.same gg.dr (sj (.tup [.str "not", .ref e1])))
  have hsij := hsip.go gj (gp _).dr
  have hlij := hlip.go gj (gp _).dr
  have hnot : ItemIn (upd (upd Hg e1 (.tup [.str "equal", lv, sv])) e2 (.tup [.str "not", .ref e1])) (.un "not" (.bin "equal" li si)) (.ref e2) := .un upd_same (.bin (j2 _ _ _ upd_same) hlij hsij)
  have consJ : ∀ v ∈ cx.take at6.toNat ++ [V.ref e2] ++ cx.drop at6.toNat, ∃ i, ItemIn (upd (upd Hg e1 (.tup [.str "equal", lv, sv])) e2 (.tup [.str "not", .ref e1])) i v ∧ (Okx (nm :: xs) (B + 1) true i ∧ i.dep ≤ 4) := fun v hv => by
    rcases List.mem_append.mp hv with hv | hv
    · rcases List.mem_append.mp hv with hv | hv
      · obtain ⟨i, h1, h2⟩ := consP v (List.mem_of_mem_take hv)
        exact ⟨i, h1.go gj (gp _).dr, h2⟩
      · rw [List.mem_singleton.mp hv]
        exact ⟨_, hnot, .not (.cmp (by decide +kernel) olf hso), by simp only [It.dep]; omega⟩
    · obtain ⟨i, h1, h2⟩ := consP v (List.mem_of_mem_drop hv)
      exact ⟨i, h1.go gj (gp _).dr, h2⟩
  obtain ⟨l, hkl, hpl, hml⟩ := cds_mark hnot ⟨.not (.cmp (by decide +kernel) olf hso), by simp only [It.dep]; omega⟩ _ consJ (List.mem_append_left _ (List.mem_append_right _ (List.mem_singleton.mpr rfl)))
  have hgl : gdL l = 0 := by
    have := gdL_in hml
    simp only [It.gd] at this
    omega
  refine ⟨pp, cx, at6, .ref e2, rfl, rfl, egp2, small1000 (by omega), a60, by omega, ?_⟩
  have hlen6 : (cx.take at6.toNat ++ [V.ref e2] ++ cx.drop at6.toNat).length ≤ 20 := by
    rw [List.length_append, List.length_append, List.length_take, List.length_drop, List.length_singleton]
    omega
  generalize hcy : cx.take at6.toNat ++ [V.ref e2] ++ cx.drop at6.toNat = cy at hkl hlen6 ⊢
  have tpj := tp_put (o := HO.lst cy) egp2
  have hkl2 := hkl.mono tpj
  have hpp0 : He pp = none := hpp
  have gk : Go d He (upd (upd (upd Hg e1 (.tup [.str "equal", lv, sv])) e2 (.tup [.str "not", .ref e1])) pp (.lst cy)) := ((gp (.lst cx)).trans gj).put2 hpp0 npp
  have g0k := g0l.trans (ge.trans gk)
  have efk := gk.fr pf _ npf (ge.fr pf _ npf (gl.fr pf _ npf ef))
  have badsk : ∀ v ∈ [sv, V.ref b1, .ref b3, .ref b4], ∃ b i, ItemIn (upd (upd (upd Hg e1 (.tup [.str "equal", lv, sv])) e2 (.tup [.str "not", .ref e1])) pp (.lst cy)) i v ∧ Okx (nm :: xs) (B + 1) b i ∧ i.dep ≤ 4 ∧ i.gd = 0 := fun v hv => by
    obtain ⟨b, i, h1, h2⟩ := bads v hv
    exact ⟨b, i, h1.go (gl.trans (ge.trans gk)) gf.dr, h2⟩
  generalize hHk : upd _ pp (HO.lst cy) = Hk at hkl2 gk g0k efk badsk ⊢
  have ekp : Hk pp = some (.lst cy) := by rw [← hHk]; exact upd_same
  -- what is returned
  refine ⟨_, rfl, (Nat.le_of_ble_eq_true rfl), fun q1 hq1 => ?_⟩
  have gq1 := fun o => Go.new (o := o) gk.dr hq1
  refine ⟨_, rfl, d, _, rfl, (gq1 _).dr, (by decide), fun u7 Hm gm u70 u71 => ?_⟩
  obtain ⟨gw, hgw, hmgw⟩ := atI_map (f := V.str) (xs := ["all", "any"]) u70 u71
  refine ⟨_, _, _, _, rfl, rfl, sqd (gm.at gk.dr hq1), hgw, ?_⟩
  have gkm := (gq1 (.lst [.str "all", .str "any"])).trans gm
  refine ⟨_, rfl, pp, _, rfl, .inl ⟨sqd (gkm.fr pp _ npp ekp), fun tp htp => ?_⟩⟩
  refine ⟨(Nat.le_of_ble_eq_true rfl), fun gt hgt => ⟨(Nat.le_of_ble_eq_true rfl), fun q2 hq2 => ?_⟩⟩
  have w1 := fun o => same_new htp o
  have w2 := fun o => same_new hgt o
  have w3 := fun o => same_new hq2 o
  have sw := fun o => ((w1 (.tup cy)).trans (w2 (.tup [.str gw, .ref tp]))).trans (w3 o)
  refine ⟨pf, q2, _, _, rfl, rfl, sw _ _ _ (gkm.fr pf _ npf efk), upd_same, (Nat.le_of_ble_eq_true rfl), fun q3 hq3 => ?_⟩
  have w4 := fun o => same_new hq3 o
  have sw4 := fun o => (sw (.lst [.ref gt])).trans (w4 o)
  have nq3 : q3 ≠ d := new_ne (Go.same gkm.dr (sw (.lst [.ref gt]))).dr hq3
  have gz0 := fun o => Go.same gkm.dr (sw4 o)
  refine ⟨_, rfl, d, _, rfl, (gz0 _).dr, (by decide), fun u8 Hz gz u80 u81 => ?_⟩
  obtain ⟨rv, hrv, hmrv⟩ := atI_mem (xs := [sv, V.ref b1, .ref b3, .ref b4] ++ [V.ref gt]) u80 u81
  refine ⟨_, _, _, _, rfl, rfl, sqd (gz.fr q3 _ nq3 upd_same), hrv, ?_⟩
  have g0z := g0k.trans (gkm.trans ((gz0 (.lst ([sv, .ref b1, .ref b3, .ref b4] ++ [.ref gt]))).trans gz))
  rcases List.mem_append.mp hmrv with hv | hv
  · obtain ⟨b, i, h1, h2, h3, h4⟩ := badsk rv hv
    exact q rv i b _ Hz g0z (h1.go (gkm.trans ((gz0 (.lst ([sv, .ref b1, .ref b3, .ref b4] ++ [.ref gt]))).trans gz)) gk.dr) h2 hys hyl (by omega) h4
  · rw [List.mem_singleton.mp hv]
    have hkz := (hkl2.mono ((gkm.tp gk.dr).trans (Tp.same (sw4 (.lst ([sv, .ref b1, .ref b3, .ref b4] ++ [.ref gt])))))).mono (gz.tp (gz0 _).dr)
    have e1 := gz.tup (gz0 _).dr (w4 (.lst ([sv, .ref b1, .ref b3, .ref b4] ++ [.ref gt])) _ _ (w3 (.lst [.ref gt]) _ _ (upd_same (a := gt) (o := HO.tup [.str gw, .ref tp]))))
    have e2 := gz.tup (gz0 _).dr (w4 (.lst ([sv, .ref b1, .ref b3, .ref b4] ++ [.ref gt])) _ _ (w3 (.lst [.ref gt]) _ _ (w2 (.tup [.str gw, .ref tp]) _ _ (upd_same (a := tp) (o := HO.tup cy)))))
    have hll : l.length ≤ 20 := by rw [← hkz.1]; exact hlen6
    have hdl : depL l ≤ 4 := depL_le l fun i hi => (hpl i hi).2
    exact q _ (.grp gw l) true _ Hz g0z (.grp e1 e2 hkz.1 hkz.2) (.grp hmgw (by omega) fun i hi => (hpl i hi).1) hys hyl (by simp only [It.dep]; omega) (by simp only [It.gd]; exact hgl)
end
end NL

namespace NL
open PySem PySem.Spec PyProof.Rows L2
theorem bound_sum {ns : List Int} {c : Int} (h : c ∈ ns) : c.natAbs ≤ (ns.map Int.natAbs).sum := by
  induction ns with
  | nil => cases h
  | cons a r ih =>
    rw [List.map_cons, List.sum_cons]
    rcases List.mem_cons.mp h with e | e
    · rw [e]; omega
    · have := ih e
      omega
theorem stF {u v : Str} (h : u = v) : (!decide (V.str u = V.str v)) = false := by rw [h, decide_eq_true rfl] <;> rfl
def spLaw (K : PySem.W.Frag) : Sp := fun vs H Q _ => ∃ (a : Addr) (ns : List Int), vs = [.ref a] ∧ SqL K H a (ns.map V.int) ∧ ns.length ≤ 63 ∧ ∀ H', Q (.bl true) H'
section
variable {P : Program} {w : World} {K : PySem.W.Frag} {mg : Str → Option Value} {base : Heap}
theorem ok_law (T : Txt K mg) (EX : Exs K mg) : FnOk P w K mg base CX0 30 T.alaw T.dlaw Plaw (spLaw K) := by
  have G_law_draws := ok_law_draws (P := P) (w := w) (base := base) T
  have G_law_cell := ok_law_cell (P := P) (w := w) (base := base) T
  have G_law_take := ok_law_take (P := P) (w := w) (base := base) T
  have G_law_names := ok_law_names (P := P) (w := w) (base := base) T
  have G_law_around := ok_law_around (P := P) (w := w) (base := base) T
  have G_law_depth := ok_law_depth (P := P) (w := w) (base := base) T 12
  have G_law_checked := ok_law_checked (P := P) (w := w) (base := base) T EX
  refine T.Flaw.ok sclaw (fun vs H Q E h => ?_) (fun cdv A outer s H vs Q E hr h => ?_)
  · obtain ⟨a, ns, rfl, _⟩ := h
    rfl
  obtain ⟨a, ns, rfl, hS, hl, q⟩ := h
  obtain ⟨B, hB, hB2, hBc⟩ : ∃ B : Nat, 100 ≤ B ∧ B % 2 = 0 ∧ ∀ c : Int, (c = 0 ∨ c ∈ ns) → c.natAbs ≤ B := ⟨2 * (100 + (ns.map Int.natAbs).sum), by omega, by omega, fun c h => by
    rcases h with h | h
    · rw [h]; exact Nat.zero_le _
    · have := bound_sum h
      omega⟩
  have G_law_leaf := ok_law_leaf (P := P) (w := w) (base := base) hB T
  have G_law_bad := ok_law_bad (P := P) (w := w) (base := base) hB hB2 T
  obtain ⟨G_law_expression, G_law_test⟩ := ok_ET (P := P) (w := w) (base := base) hB T 3
  refine ⟨_, (pss_cons (ps_set (i := 1) sclaw.nd rfl (Or.inl rfl) (pe_call G_law_draws (hr.mono (by omega)) (by rfl) T.m_law_draws T.F_law_draws.kp T.b_law_draws .nil pass0 (pa_cons (pv 0) (pa_cons pe_int pa_nil))))
    (pss_cons (ps_set (i := 2) sclaw.nd rfl (Or.inl rfl) (pe_call G_law_cell (hr.mono (by omega)) (by rfl) T.m_law_cell T.F_law_cell.kp T.b_law_cell .nil pass0 (pa_cons (pv 0) (pa_cons (pv 1) pa_nil))))
    (pss_cons (ps_set (i := 3) sclaw.nd rfl (Or.inl rfl) (pe_call G_law_names (hr.mono (by omega)) (by rfl) T.m_law_names T.F_law_names.kp T.b_law_names .nil pass0 (pa_cons (pv 1) (pa_cons pe_int pa_nil))))
    (pss_cons (ps_set (i := 4) sclaw.nd rfl (Or.inl rfl) (pe_call G_law_take (hr.mono (by omega)) (by rfl) T.m_law_take T.F_law_take.kp T.b_law_take .nil pass0 (pa_cons (pv 1) (pa_cons pe_int pa_nil))))
    (pss_cons (ps_set (i := 5) sclaw.nd rfl (Or.inl rfl) (pe_call G_law_leaf (hr.mono (by omega)) (by rfl) T.m_law_leaf T.F_law_leaf.kp T.b_law_leaf .nil pass0 (pa_cons (pv 1) (pa_cons (pv 3) (pa_cons (pv 2) pa_nil)))))
    (pss_cons (ps_set (i := 6) sclaw.nd rfl (Or.inl rfl) (pe_lst (pa_cons (pe_call G_law_expression (hr.mono (by omega)) (by rfl) T.m_law_expression T.F_law_expression.kp T.b_law_expression .nil pass0 (pa_cons (pv 1) (pa_cons (pv 3) (pa_cons (pv 2) (pa_cons pe_int pa_nil))))) (pa_cons (pe_call G_law_test (hr.mono (by omega)) (by rfl) T.m_law_test T.F_law_test.kp T.b_law_test .nil pass0 (pa_cons (pv 1) (pa_cons (pv 3) (pa_cons (pv 2) (pa_cons pe_int pa_nil))))) pa_nil))))
    (pss_cons (ps_for PassesOwn.never rfl (pi_list (pv 6)) (pg_name (i := 7) sclaw.nd rfl (Or.inl rfl))
    (pss_one (ps_if (PW.pt (pw_or (pt_cmpR op_ne (pe_call G_law_checked (hr.mono (by omega)) (by rfl) T.m_law_checked T.F_law_checked.kp T.b_law_checked .nil pass0 (pa_cons (pv 7) pa_nil)) pe_str (nomark _)) (pw_or1 (pt_cmpR op_ne (pe_call G_law_checked (hr.mono (by omega)) (by rfl) T.m_law_checked T.F_law_checked.kp T.b_law_checked .nil pass0 (pa_cons (pe_call G_law_around (hr.mono (by omega)) (by rfl) T.m_law_around T.F_law_around.kp T.b_law_around .nil pass0 (pa_cons (pv 7) (pa_cons (pv 5) (pa_cons (pe_call G_law_take (hr.mono (by omega)) (by rfl) T.m_law_take T.F_law_take.kp T.b_law_take .nil pass0 (pa_cons (pv 1) (pa_cons pe_int pa_nil))) (pa_cons (pv 4) pa_nil))))) pa_nil)) pe_str (nomark _)))))
    (pss_one (ps_ret pe_bl))
    pss_nil)))
    (pss_cons (ps_set (i := 8) sclaw.nd rfl (Or.inl rfl) (pe_call G_law_bad (hr.mono (by omega)) (by rfl) T.m_law_bad T.F_law_bad.kp T.b_law_bad .nil pass0 (pa_cons (pv 1) (pa_cons (pv 3) (pa_cons (pv 2) pa_nil)))))
    (pss_cons (ps_set (i := 8) sclaw.nd rfl (Or.inl rfl) (pe_call G_law_around (hr.mono (by omega)) (by rfl) T.m_law_around T.F_law_around.kp T.b_law_around .nil pass0 (pa_cons (pv 8) (pa_cons (pv 5) (pa_cons (pe_ix ix_list (pe_lst (pa_cons (pe_call G_law_take (hr.mono (by omega)) (by rfl) T.m_law_take T.F_law_take.kp T.b_law_take .nil pass0 (pa_cons (pv 1) (pa_cons pe_int pa_nil))) (pa_cons (pe_op op_sub pe_int (pe_call G_law_depth (hr.mono (by omega)) (by rfl) T.m_law_depth T.F_law_depth.kp T.b_law_depth .nil pass0 (pa_cons (pv 8) pa_nil))) pa_nil))) (pe_op op_fdiv (pe_call G_law_take (hr.mono (by omega)) (by rfl) T.m_law_take T.F_law_take.kp T.b_law_take .nil pass0 (pa_cons (pv 1) (pa_cons pe_int pa_nil))) pe_int) (fun _ _ => rfl)) (pa_cons (pv 4) pa_nil))))))
    (pss_cons (ps_if (pt_cmpR op_ne (pe_call G_law_checked (hr.mono (by omega)) (by rfl) T.m_law_checked T.F_law_checked.kp T.b_law_checked .nil pass0 (pa_cons (pv 8) pa_nil)) pe_str (nomark _))
    (pss_one (ps_ret pe_bl))
    pss_nil)
    (pss_cons (ps_set (i := 9) sclaw.nd rfl (Or.inl rfl) (pe_ix ix_list (pe_lst (pa_cons (pv 5) (pa_cons (pe_tup (pa_cons pe_str (pa_cons (pv 2) pa_nil))) (pa_cons (pe_tup (pa_cons pe_str pa_nil)) (pa_cons (pe_tup (pa_cons pe_str (pa_cons (pe_tup pa_nil) pa_nil))) (pa_cons (pe_tup (pa_cons pe_str (pa_cons (pe_tup pa_nil) pa_nil))) pa_nil)))))) (pe_call G_law_take (hr.mono (by omega)) (by rfl) T.m_law_take T.F_law_take.kp T.b_law_take .nil pass0 (pa_cons (pv 1) (pa_cons pe_int pa_nil))) (fun _ _ => rfl)))
    (pss_cons (ps_set (i := 10) sclaw.nd rfl (Or.inl rfl) (pe_op op_add pe_int (pe_op op_mul (pe_call G_law_take (hr.mono (by omega)) (by rfl) T.m_law_take T.F_law_take.kp T.b_law_take .nil pass0 (pa_cons (pv 1) (pa_cons pe_int pa_nil))) (pe_call G_law_take (hr.mono (by omega)) (by rfl) T.m_law_take T.F_law_take.kp T.b_law_take .nil pass0 (pa_cons (pv 1) (pa_cons pe_int pa_nil))))))
    (pss_cons (ps_if (pt_cmpR op_ne (pe_call G_law_checked (hr.mono (by omega)) (by rfl) T.m_law_checked T.F_law_checked.kp T.b_law_checked .nil pass0 (pa_cons (pe_call G_law_around (hr.mono (by omega)) (by rfl) T.m_law_around T.F_law_around.kp T.b_law_around .nil pass0 (pa_cons (pv 9) (pa_cons (pv 5) (pa_cons pe_int (pa_cons (pv 4) pa_nil))))) pa_nil)) pe_str (nomark _))
    (pss_one (ps_ret pe_bl))
    pss_nil)
    (pss_one (ps_ret (pe_cmpR op_eq (pe_call G_law_checked (hr.mono (by omega)) (by rfl) T.m_law_checked T.F_law_checked.kp T.b_law_checked .nil pass0 (pa_cons (pe_call G_law_around (hr.mono (by omega)) (by rfl) T.m_law_around T.F_law_around.kp T.b_law_around .nil pass0 (pa_cons (pv 9) (pa_cons (pv 5) (pa_cons (pv 10) (pa_cons (pv 4) pa_nil))))) pa_nil)) pe_str (nomark _))))))))))))))))), ?_⟩
  refine ⟨_, rfl, a, ns, 300, rfl, hS, hl, by decide, by decide, fun d H1 s1 hd D1 => ?_⟩
  have hk := Keep.old hS hd s1
  refine ⟨_, rfl, _, rfl, a, d, ns, rfl, hk, D1, fun c H2 g2 hc0 => ?_⟩
  have hc := hBc c hc0
  refine ⟨_, rfl, d, 4, rfl, g2.dr, by decide, by decide, fun n xs H4 g4 _ hn e4 hx hxl _ _ => ?_⟩
  have hkn : Keep K d H4 n (xs.map V.str) := .of hn e4
  have hxN : ∀ x ∈ xs, isN x = true := fun x h => nam_ok (hx x h)
  have hxL : ∀ x ∈ xs, x.length ≤ 500 := fun x h => by have := (hx x h).len; omega
  have hxL2 : ∀ x ∈ xs, x.length ≤ 1000 := fun x h => by have := hxL x h; omega
  -- turn, side
  refine ⟨_, rfl, d, _, rfl, g4.dr, (by decide), fun tu H5 g5 _ _ => ?_⟩
  refine ⟨_, rfl, _, rfl, _, rfl, d, n, xs, c, rfl, g5.dr, hkn.go g5, hc, fun sv si H6 g6 hsi hso hsd hsz => ?_⟩
  have g46 := g5.trans g6
  have hsg := gd_le si
  -- items
  refine ⟨_, rfl, _, rfl, _, rfl, d, n, xs, c, 2, rfl, g6.dr, hkn.go g46, hc, by decide, fun v1 i1 H7 g7 hi1 ho1 hd1 hs1 => ?_⟩
  refine ⟨_, rfl, _, rfl, _, rfl, d, n, xs, c, 2, rfl, g7.dr, hkn.go (g46.trans g7), hc, by decide, fun v2 i2 H8 g8 hi2 ho2 hd2 hs2 => ?_⟩
  refine ⟨(Nat.le_of_ble_eq_true rfl), fun iq hiq => ?_⟩
  have gq := fun o => Go.new (o := o) g8.dr hiq
  have ne : iq ≠ d := new_ne g8.dr hiq
  have hd1' : i1.dep ≤ 5 := hd1
  have hd2' : i2.dep ≤ 6 := hd2
  have its : ∀ v ∈ [v1, v2], ∃ b i, ItemIn (upd H8 iq (.lst [v1, v2])) i v ∧ Okx xs B b i ∧ i.dep ≤ 6 := fun v hv => by
    rcases List.mem_cons.mp hv with e | e
    · rw [e]; exact ⟨_, i1, hi1.go (g8.trans (gq _)) g7.dr, ho1, by omega⟩
    · rw [List.mem_singleton.mp e]; exact ⟨_, i2, hi2.go (gq _) g8.dr, ho2, by omega⟩
  have g69 := g7.trans (g8.trans (gq (.lst [v1, v2])))
  have hsi9 := hsi.go g69 g6.dr
  refine ⟨_, rfl, iq, rfl, ⟨_, sqd upd_same⟩, for_list (K := K) (a := iq) (xs := [v1, v2]) (fun (j : Nat) (σ : L2.St) (H' : Hp) => ∃ y7 : Option V, σ = [some (.ref a), some (.ref d), some (.int c), some (.ref n), some (.int tu), some sv, some (.ref iq), y7, none, none, none] ∧ Go d (upd H8 iq (.lst [v1, v2])) H') ?_ ?_ ?_ ?_⟩
  · exact ⟨none, rfl, Go.refl (gq _).dr⟩
  · rintro j σ H' _ ⟨y7, rfl, g⟩
    exact sqd (g.fr iq _ ne upd_same)
  · rintro j x σ H' hx' ⟨y7, rfl, g⟩
    obtain ⟨b, i, hi, ho, hdp⟩ := its x (List.mem_of_getElem? hx')
    refine ⟨_, rfl, x, i, xs, B, b, rfl, hi.go g (gq _).dr, ho, hxL2, fun Ha sa => ?_⟩
    have ga := Go.same g.dr sa
    refine ⟨rfl, _, rfl, ?_⟩
    refine ifF (stF (if_pos (vl_ok hB2 hxN ho 1 (by omega)))) ?_
    refine ⟨_, rfl, _, rfl, _, rfl, d, _, rfl, ga.dr, (by decide), fun m Hb gb m0 m1 => ?_⟩
    have gab := g.trans (ga.trans gb)
    refine ⟨_, rfl, x, sv, i, si, xs, B, b, m, tu, rfl, hi.go gab (gq _).dr, ho, hsi9.go gab (gq _).dr, hso, hsd, hsg, hB, by omega, by omega, fun v' i' b' Hc sc hi' ho' hd' hg' => ?_⟩
    refine ⟨v', i', xs, B, b', rfl, hi', ho', hxL2, fun He se => ?_⟩
    refine ⟨rfl, _, rfl, ?_⟩
    refine ifF (stF (if_pos (vl_ok hB2 hxN ho' 1 (by omega)))) ?_
    exact ⟨_, rfl, (gab.trans (Go.same gab.dr sc)).trans (Go.same (gab.trans (Go.same gab.dr sc)).dr se)⟩
  rintro σ Hf ⟨y7, rfl, gf⟩
  have g4f := g46.trans (g69.trans gf)
  have hsif := hsi9.go gf (gq _).dr
  -- the bad one
  refine ⟨_, rfl, _, rfl, _, rfl, d, n, xs, c, rfl, gf.dr, hkn.go g4f, hc, hxL, fun bv bi bb ys Hg gg hbi hbo hys hyl hbd hbg => ?_⟩
  have hyl2 : ∀ x ∈ ys, x.length ≤ 1000 := fun x h => by have := hyl x h; omega
  have hso' := okx_odd hB2 hys hso
  have hsig := hsif.go gg gf.dr
  refine ⟨_, rfl, _, rfl, _, rfl, d, _, rfl, gg.dr, (by decide), fun r Hh gh r0 r1 => ?_⟩
  refine ⟨_, rfl, bv, bi, ys, B + 1, bb, rfl, hbi.go gh gg.dr, hbo, by omega, fun Hi si_ => ?_⟩
  have ghi := gh.trans (Go.same gh.dr si_)
  refine ⟨_, _, rfl, rfl, (Nat.le_of_ble_eq_true rfl), fun pm hpm => ?_⟩
  have gpm := fun o => Go.new (o := o) ghi.dr hpm
  refine ⟨_, rfl, d, _, rfl, (gpm _).dr, (by decide), fun u Hj gj u0 u1 => ?_⟩
  obtain ⟨m, hm, hmm⟩ := atI_map (f := V.int) (xs := [r, 12 - (bi.dep : Int)]) (i := u / 3) (by omega) (by show u / 3 < 2; omega)
  refine ⟨_, _, rfl, rfl, ⟨by decide, by decide⟩, _, _, _, _, rfl, rfl, sqd (gj.at ghi.dr hpm), hm, ?_⟩
  have hmb : -1000 ≤ m ∧ m ≤ 1000 := by
    simp only [List.mem_cons, List.not_mem_nil, or_false] at hmm
    have := dep_pos bi
    rcases hmm with h | h <;> omega
  have ggj := ghi.trans ((gpm (.lst [.int r, .int (12 - (bi.dep : Int))])).trans gj)
  refine ⟨_, rfl, bv, sv, bi, si, ys, B + 1, bb, m, tu, rfl, hbi.go ggj gg.dr, hbo, hsig.go ggj gg.dr, hso', hsd, hsg, by omega, hmb.1, hmb.2, fun v' i' b' Hk sk hi' ho' hd' hg' => ?_⟩
  refine ⟨_, rfl, v', i', ys, B + 1, b', rfl, hi', ho', hyl2, fun Hl sl => ?_⟩
  refine ⟨rfl, _, rfl, ?_⟩
  refine ifF (stF (if_neg (by rw [vl_bad 1 (.inl (by omega))]; exact Bool.false_ne_true))) ?_
  have g4l := g4f.trans (gg.trans (ggj.trans ((Go.same ggj.dr sk).trans (Go.same (ggj.trans (Go.same ggj.dr sk)).dr sl))))
  have gfl := gg.trans (ggj.trans ((Go.same ggj.dr sk).trans (Go.same (ggj.trans (Go.same ggj.dr sk)).dr sl)))
  have hsil := hsif.go gfl gf.dr
  -- the last
  refine ⟨_, rfl, _, rfl, (Nat.le_of_ble_eq_true rfl), fun a1 h1 => ⟨(Nat.le_of_ble_eq_true rfl), fun a2 h2 => ⟨(Nat.le_of_ble_eq_true rfl), fun a3 h3 => ⟨(Nat.le_of_ble_eq_true rfl), fun a4 h4 => ⟨(Nat.le_of_ble_eq_true rfl), fun a5 h5 => ⟨(Nat.le_of_ble_eq_true rfl), fun a6 h6 => ⟨(Nat.le_of_ble_eq_true rfl), fun p7 hp7 => ?_⟩⟩⟩⟩⟩⟩⟩
  have k1 := fun o => same_new h1 o
  have k2 := fun o => same_new h2 o
  have k3 := fun o => same_new h3 o
  have k4 := fun o => same_new h4 o
  have k5 := fun o => same_new h5 o
  have k6 := fun o => same_new h6 o
  have k7 := fun o => same_new hp7 o
  have sl6 := (((((k1 (.tup [.str "number", .int c])).trans (k2 (.tup [.str "true"]))).trans (k3 (.tup []))).trans (k4 (.tup [.str "all", .ref a3]))).trans (k5 (.tup []))).trans (k6 (.tup [.str "any", .ref a5]))
  have sl7 := sl6.trans (k7 (.lst [sv, .ref a1, .ref a2, .ref a4, .ref a6]))
  have g7' := Go.same gfl.dr sl7
  have np7 : p7 ≠ d := new_ne (Go.same gfl.dr sl6).dr hp7
  have lasts : ∀ v ∈ [sv, V.ref a1, .ref a2, .ref a4, .ref a6], ∃ b i, ItemIn (upd (upd (upd (upd (upd (upd (upd Hl a1 (.tup [.str "number", .int c])) a2 (.tup [.str "true"])) a3 (.tup [])) a4 (.tup [.str "all", .ref a3])) a5 (.tup [])) a6 (.tup [.str "any", .ref a5])) p7 (.lst [sv, .ref a1, .ref a2, .ref a4, .ref a6])) i v ∧ Okx xs B b i ∧ i.dep = 1 := by
    intro v hv
    simp only [List.mem_cons, List.not_mem_nil, or_false] at hv
    rcases hv with h | h | h | h | h
    · rw [h]; exact ⟨_, si, hsil.mono (Tp.same sl7), hso, hsd⟩
    · rw [h]; exact ⟨_, .num c, .num (k7 _ _ _ (k6 _ _ _ (k5 _ _ _ (k4 _ _ _ (k3 _ _ _ (k2 _ _ _ upd_same)))))), .num hc, by rw [It.dep]⟩
    · rw [h]; exact ⟨_, .lit true, .lit (k7 _ _ _ (k6 _ _ _ (k5 _ _ _ (k4 _ _ _ (k3 _ _ _ upd_same))))), .lit, by rw [It.dep]⟩
    · rw [h]; exact ⟨_, .grp "all" [], .grp (k7 _ _ _ (k6 _ _ _ (k5 _ _ _ upd_same))) (k7 _ _ _ (k6 _ _ _ (k5 _ _ _ (k4 _ _ _ upd_same)))) rfl (fun k i x hk _ => by simp at hk), .grp (by decide +kernel) (Nat.le_of_ble_eq_true rfl) (fun i hi => nomatch hi), by simp [It.dep, depL]⟩
    · rw [h]; exact ⟨_, .grp "any" [], .grp (k7 _ _ _ upd_same) (k7 _ _ _ (k6 _ _ _ upd_same)) rfl (fun k i x hk _ => by simp at hk), .grp (by decide +kernel) (Nat.le_of_ble_eq_true rfl) (fun i hi => nomatch hi), by simp [It.dep, depL]⟩
  refine ⟨_, rfl, d, _, rfl, g7'.dr, (by decide), fun u9 Hm gm u90 u91 => ?_⟩
  obtain ⟨lv, hlv, hmlv⟩ := atI_mem (xs := [sv, V.ref a1, .ref a2, .ref a4, .ref a6]) u90 u91
  obtain ⟨lb, li, hli, hlo, hld⟩ := lasts lv hmlv
  refine ⟨_, _, _, _, rfl, rfl, sqd (gm.fr p7 _ np7 upd_same), hlv, ?_⟩
  have hlim := hli.go gm g7'.dr
  have hsim := (hsil.mono (Tp.same sl7)).go gm g7'.dr
  -- deep
  refine ⟨_, rfl, d, _, rfl, gm.dr, (by decide), fun w1 Hn gn w10 w11 => ?_⟩
  refine ⟨_, rfl, d, _, rfl, gn.dr, (by decide), fun w2 Ho go_ w20 w21 => ?_⟩
  refine ⟨_, _, rfl, rfl, .inl ⟨by omega, by omega⟩, _, _, rfl, rfl, ?_⟩
  have gmo := gn.trans go_
  have hmul : 0 ≤ w1 * w2 ∧ w1 * w2 ≤ 88 := by
    have h01 : w2 = 0 ∨ w2 = 1 := by omega
    rcases h01 with e | e <;> rw [e] <;> omega
  refine ⟨_, rfl, _, rfl, _, rfl, lv, sv, li, si, xs, B, lb, 11, tu, rfl, hlim.go gmo gm.dr, hlo, hsim.go gmo gm.dr, hso, hsd, hsg, hB, by decide, by decide, fun v' i' b' Hp_ sp hi' ho' hd' hg' => ?_⟩
  refine ⟨v', i', xs, B, b', rfl, hi', ho', hxL2, fun Hq sq => ?_⟩
  refine ⟨rfl, _, rfl, ?_⟩
  refine ifF (stF (if_pos (vl_ok hB2 hxN ho' 1 (by omega)))) ?_
  have gmq := gmo.trans (Go.same gmo.dr (sp.trans sq))
  refine ⟨_, rfl, _, rfl, _, rfl, _, rfl, lv, sv, li, si, xs, B, lb, 12 + w1 * w2, tu, rfl, hlim.go gmq gm.dr, hlo, hsim.go gmq gm.dr, hso, hsd, hsg, hB, by omega, by omega, fun v'' i'' b'' Hr sr hi'' ho'' hd'' hg'' => ?_⟩
  refine ⟨v'', i'', xs, B, b'', rfl, hi'', ho'', hxL2, fun Hs ss => ?_⟩
  refine ⟨rfl, ?_⟩
  have ev : i''.vl 1 = false := vl_bad 1 (.inr (by omega))
  rw [if_neg (by rw [ev]; exact Bool.false_ne_true), decide_eq_true rfl]
  exact q _
end
end NL

namespace NL
open PySem PySem.Spec PyProof.Rows L2
theorem all_mk {l : PySem.W.OpenLaw} {w : World} {K : PySem.W.Frag} {h : Heap} {mg : Str → Option Value} {fa frun_end fis_name fparts_in fcheck_expression fcheck_condition f_check f_law_draws f_law_take f_law_cell f_law_word f_law_some_word f_law_reserved f_law_name f_law_names f_law_no_word f_law_number f_law_leaf f_law_expression f_law_test f_law_inner f_law_depth f_law_is_test f_law_around f_law_error_name f_law_bad f_law_checked flaw : Addr} (X : K.In h) (G : h.Ns mainGlobals mg) (hfa : mg "law" = some (.ref fa))
    {odrun_end anrun_end : Option Addr} {slrun_end : Array (Option Value)} {ocrun_end kVrun_end dcrun_end pmrun_end cdrun_end ctrun_end : Value}
    {odis_name anis_name : Option Addr} {slis_name : Array (Option Value)} {ocis_name kVis_name dcis_name pmis_name cdis_name ctis_name : Value}
    {odparts_in anparts_in : Option Addr} {slparts_in : Array (Option Value)} {ocparts_in kVparts_in dcparts_in pmparts_in cdparts_in ctparts_in : Value}
    {odcheck_expression ancheck_expression : Option Addr} {slcheck_expression : Array (Option Value)} {occheck_expression kVcheck_expression dccheck_expression pmcheck_expression cdcheck_expression ctcheck_expression : Value}
    {odcheck_condition ancheck_condition : Option Addr} {slcheck_condition : Array (Option Value)} {occheck_condition kVcheck_condition dccheck_condition pmcheck_condition cdcheck_condition ctcheck_condition : Value}
    {od_check an_check : Option Addr} {sl_check : Array (Option Value)} {oc_check kV_check dc_check pm_check cd_check ct_check : Value}
    {od_law_draws an_law_draws : Option Addr} {sl_law_draws : Array (Option Value)} {oc_law_draws kV_law_draws dc_law_draws pm_law_draws cd_law_draws ct_law_draws : Value}
    {od_law_take an_law_take : Option Addr} {sl_law_take : Array (Option Value)} {oc_law_take kV_law_take dc_law_take pm_law_take cd_law_take ct_law_take : Value}
    {od_law_cell an_law_cell : Option Addr} {sl_law_cell : Array (Option Value)} {oc_law_cell kV_law_cell dc_law_cell pm_law_cell cd_law_cell ct_law_cell : Value}
    {od_law_word an_law_word : Option Addr} {sl_law_word : Array (Option Value)} {oc_law_word kV_law_word dc_law_word pm_law_word cd_law_word ct_law_word : Value}
    {od_law_some_word an_law_some_word : Option Addr} {sl_law_some_word : Array (Option Value)} {oc_law_some_word kV_law_some_word dc_law_some_word pm_law_some_word cd_law_some_word ct_law_some_word : Value}
    {od_law_reserved an_law_reserved : Option Addr} {sl_law_reserved : Array (Option Value)} {oc_law_reserved kV_law_reserved dc_law_reserved pm_law_reserved cd_law_reserved ct_law_reserved : Value}
    {od_law_name an_law_name : Option Addr} {sl_law_name : Array (Option Value)} {oc_law_name kV_law_name dc_law_name pm_law_name cd_law_name ct_law_name : Value}
    {od_law_names an_law_names : Option Addr} {sl_law_names : Array (Option Value)} {oc_law_names kV_law_names dc_law_names pm_law_names cd_law_names ct_law_names : Value}
    {od_law_no_word an_law_no_word : Option Addr} {sl_law_no_word : Array (Option Value)} {oc_law_no_word kV_law_no_word dc_law_no_word pm_law_no_word cd_law_no_word ct_law_no_word : Value}
    {od_law_number an_law_number : Option Addr} {sl_law_number : Array (Option Value)} {oc_law_number kV_law_number dc_law_number pm_law_number cd_law_number ct_law_number : Value}
    {od_law_leaf an_law_leaf : Option Addr} {sl_law_leaf : Array (Option Value)} {oc_law_leaf kV_law_leaf dc_law_leaf pm_law_leaf cd_law_leaf ct_law_leaf : Value}
    {od_law_expression an_law_expression : Option Addr} {sl_law_expression : Array (Option Value)} {oc_law_expression kV_law_expression dc_law_expression pm_law_expression cd_law_expression ct_law_expression : Value}
    {od_law_test an_law_test : Option Addr} {sl_law_test : Array (Option Value)} {oc_law_test kV_law_test dc_law_test pm_law_test cd_law_test ct_law_test : Value}
    {od_law_inner an_law_inner : Option Addr} {sl_law_inner : Array (Option Value)} {oc_law_inner kV_law_inner dc_law_inner pm_law_inner cd_law_inner ct_law_inner : Value}
    {od_law_depth an_law_depth : Option Addr} {sl_law_depth : Array (Option Value)} {oc_law_depth kV_law_depth dc_law_depth pm_law_depth cd_law_depth ct_law_depth : Value}
    {od_law_is_test an_law_is_test : Option Addr} {sl_law_is_test : Array (Option Value)} {oc_law_is_test kV_law_is_test dc_law_is_test pm_law_is_test cd_law_is_test ct_law_is_test : Value}
    {od_law_around an_law_around : Option Addr} {sl_law_around : Array (Option Value)} {oc_law_around kV_law_around dc_law_around pm_law_around cd_law_around ct_law_around : Value}
    {od_law_error_name an_law_error_name : Option Addr} {sl_law_error_name : Array (Option Value)} {oc_law_error_name kV_law_error_name dc_law_error_name pm_law_error_name cd_law_error_name ct_law_error_name : Value}
    {od_law_bad an_law_bad : Option Addr} {sl_law_bad : Array (Option Value)} {oc_law_bad kV_law_bad dc_law_bad pm_law_bad cd_law_bad ct_law_bad : Value}
    {od_law_checked an_law_checked : Option Addr} {sl_law_checked : Array (Option Value)} {oc_law_checked kV_law_checked dc_law_checked pm_law_checked cd_law_checked ct_law_checked : Value}
    {odlaw anlaw : Option Addr} {sllaw : Array (Option Value)} {oclaw kVlaw dclaw pmlaw cdlaw ctlaw : Value}
    {u_LETTERS : Value}
    {c_WORDS : Addr}
    {u_MOST_DEPTH : Value}
    {c_ControlError c_InvalidExpression c_InvalidPlant c_InvalidArena c_InvalidGoal c_BadText c_NoPosition c_Held c_NotHeld c_BadReply c_Lost : Addr}
    (arun_end : PySem.W.nsIn K mainGlobals "run_end" = some (some (.ref frun_end))) (lrun_end : K.lookup frun_end = some ⟨ocrun_end, odrun_end, .func (PySem.W.fnOf "run_end" "run_end" (defArgs srun_end) (defBody srun_end) (defScope srun_end) .none kVrun_end dcrun_end pmrun_end anrun_end cdrun_end ctrun_end), slrun_end⟩) (crun_end : PySem.W.codeIn K cdrun_end "run_end" = true) (krun_end : PySem.W.keepIn K (.ref frun_end) = true)
    (ais_name : PySem.W.nsIn K mainGlobals "is_name" = some (some (.ref fis_name))) (lis_name : K.lookup fis_name = some ⟨ocis_name, odis_name, .func (PySem.W.fnOf "is_name" "is_name" (defArgs sis_name) (defBody sis_name) (defScope sis_name) .none kVis_name dcis_name pmis_name anis_name cdis_name ctis_name), slis_name⟩) (cis_name : PySem.W.codeIn K cdis_name "is_name" = true) (kis_name : PySem.W.keepIn K (.ref fis_name) = true)
    (aparts_in : PySem.W.nsIn K mainGlobals "parts_in" = some (some (.ref fparts_in))) (lparts_in : K.lookup fparts_in = some ⟨ocparts_in, odparts_in, .func (PySem.W.fnOf "parts_in" "parts_in" (defArgs sparts_in) (defBody sparts_in) (defScope sparts_in) .none kVparts_in dcparts_in pmparts_in anparts_in cdparts_in ctparts_in), slparts_in⟩) (cparts_in : PySem.W.codeIn K cdparts_in "parts_in" = true) (kparts_in : PySem.W.keepIn K (.ref fparts_in) = true)
    (acheck_expression : PySem.W.nsIn K mainGlobals "check_expression" = some (some (.ref fcheck_expression))) (lcheck_expression : K.lookup fcheck_expression = some ⟨occheck_expression, odcheck_expression, .func (PySem.W.fnOf "check_expression" "check_expression" (defArgs scheck_expression) (defBody scheck_expression) (defScope scheck_expression) .none kVcheck_expression dccheck_expression pmcheck_expression ancheck_expression cdcheck_expression ctcheck_expression), slcheck_expression⟩) (ccheck_expression : PySem.W.codeIn K cdcheck_expression "check_expression" = true) (kcheck_expression : PySem.W.keepIn K (.ref fcheck_expression) = true)
    (acheck_condition : PySem.W.nsIn K mainGlobals "check_condition" = some (some (.ref fcheck_condition))) (lcheck_condition : K.lookup fcheck_condition = some ⟨occheck_condition, odcheck_condition, .func (PySem.W.fnOf "check_condition" "check_condition" (defArgs scheck_condition) (defBody scheck_condition) (defScope scheck_condition) .none kVcheck_condition dccheck_condition pmcheck_condition ancheck_condition cdcheck_condition ctcheck_condition), slcheck_condition⟩) (ccheck_condition : PySem.W.codeIn K cdcheck_condition "check_condition" = true) (kcheck_condition : PySem.W.keepIn K (.ref fcheck_condition) = true)
    (a_check : PySem.W.nsIn K mainGlobals "_check" = some (some (.ref f_check))) (l_check : K.lookup f_check = some ⟨oc_check, od_check, .func (PySem.W.fnOf "_check" "_check" (defArgs s_check) (defBody s_check) (defScope s_check) .none kV_check dc_check pm_check an_check cd_check ct_check), sl_check⟩) (c_check : PySem.W.codeIn K cd_check "_check" = true) (k_check : PySem.W.keepIn K (.ref f_check) = true)
    (a_law_draws : PySem.W.nsIn K mainGlobals "_law_draws" = some (some (.ref f_law_draws))) (l_law_draws : K.lookup f_law_draws = some ⟨oc_law_draws, od_law_draws, .func (PySem.W.fnOf "_law_draws" "_law_draws" (defArgs s_law_draws) (defBody s_law_draws) (defScope s_law_draws) .none kV_law_draws dc_law_draws pm_law_draws an_law_draws cd_law_draws ct_law_draws), sl_law_draws⟩) (c_law_draws : PySem.W.codeIn K cd_law_draws "_law_draws" = true) (k_law_draws : PySem.W.keepIn K (.ref f_law_draws) = true)
    (a_law_take : PySem.W.nsIn K mainGlobals "_law_take" = some (some (.ref f_law_take))) (l_law_take : K.lookup f_law_take = some ⟨oc_law_take, od_law_take, .func (PySem.W.fnOf "_law_take" "_law_take" (defArgs s_law_take) (defBody s_law_take) (defScope s_law_take) .none kV_law_take dc_law_take pm_law_take an_law_take cd_law_take ct_law_take), sl_law_take⟩) (c_law_take : PySem.W.codeIn K cd_law_take "_law_take" = true) (k_law_take : PySem.W.keepIn K (.ref f_law_take) = true)
    (a_law_cell : PySem.W.nsIn K mainGlobals "_law_cell" = some (some (.ref f_law_cell))) (l_law_cell : K.lookup f_law_cell = some ⟨oc_law_cell, od_law_cell, .func (PySem.W.fnOf "_law_cell" "_law_cell" (defArgs s_law_cell) (defBody s_law_cell) (defScope s_law_cell) .none kV_law_cell dc_law_cell pm_law_cell an_law_cell cd_law_cell ct_law_cell), sl_law_cell⟩) (c_law_cell : PySem.W.codeIn K cd_law_cell "_law_cell" = true) (k_law_cell : PySem.W.keepIn K (.ref f_law_cell) = true)
    (a_law_word : PySem.W.nsIn K mainGlobals "_law_word" = some (some (.ref f_law_word))) (l_law_word : K.lookup f_law_word = some ⟨oc_law_word, od_law_word, .func (PySem.W.fnOf "_law_word" "_law_word" (defArgs s_law_word) (defBody s_law_word) (defScope s_law_word) .none kV_law_word dc_law_word pm_law_word an_law_word cd_law_word ct_law_word), sl_law_word⟩) (c_law_word : PySem.W.codeIn K cd_law_word "_law_word" = true) (k_law_word : PySem.W.keepIn K (.ref f_law_word) = true)
    (a_law_some_word : PySem.W.nsIn K mainGlobals "_law_some_word" = some (some (.ref f_law_some_word))) (l_law_some_word : K.lookup f_law_some_word = some ⟨oc_law_some_word, od_law_some_word, .func (PySem.W.fnOf "_law_some_word" "_law_some_word" (defArgs s_law_some_word) (defBody s_law_some_word) (defScope s_law_some_word) .none kV_law_some_word dc_law_some_word pm_law_some_word an_law_some_word cd_law_some_word ct_law_some_word), sl_law_some_word⟩) (c_law_some_word : PySem.W.codeIn K cd_law_some_word "_law_some_word" = true) (k_law_some_word : PySem.W.keepIn K (.ref f_law_some_word) = true)
    (a_law_reserved : PySem.W.nsIn K mainGlobals "_law_reserved" = some (some (.ref f_law_reserved))) (l_law_reserved : K.lookup f_law_reserved = some ⟨oc_law_reserved, od_law_reserved, .func (PySem.W.fnOf "_law_reserved" "_law_reserved" (defArgs s_law_reserved) (defBody s_law_reserved) (defScope s_law_reserved) .none kV_law_reserved dc_law_reserved pm_law_reserved an_law_reserved cd_law_reserved ct_law_reserved), sl_law_reserved⟩) (c_law_reserved : PySem.W.codeIn K cd_law_reserved "_law_reserved" = true) (k_law_reserved : PySem.W.keepIn K (.ref f_law_reserved) = true)
    (a_law_name : PySem.W.nsIn K mainGlobals "_law_name" = some (some (.ref f_law_name))) (l_law_name : K.lookup f_law_name = some ⟨oc_law_name, od_law_name, .func (PySem.W.fnOf "_law_name" "_law_name" (defArgs s_law_name) (defBody s_law_name) (defScope s_law_name) .none kV_law_name dc_law_name pm_law_name an_law_name cd_law_name ct_law_name), sl_law_name⟩) (c_law_name : PySem.W.codeIn K cd_law_name "_law_name" = true) (k_law_name : PySem.W.keepIn K (.ref f_law_name) = true)
    (a_law_names : PySem.W.nsIn K mainGlobals "_law_names" = some (some (.ref f_law_names))) (l_law_names : K.lookup f_law_names = some ⟨oc_law_names, od_law_names, .func (PySem.W.fnOf "_law_names" "_law_names" (defArgs s_law_names) (defBody s_law_names) (defScope s_law_names) .none kV_law_names dc_law_names pm_law_names an_law_names cd_law_names ct_law_names), sl_law_names⟩) (c_law_names : PySem.W.codeIn K cd_law_names "_law_names" = true) (k_law_names : PySem.W.keepIn K (.ref f_law_names) = true)
    (a_law_no_word : PySem.W.nsIn K mainGlobals "_law_no_word" = some (some (.ref f_law_no_word))) (l_law_no_word : K.lookup f_law_no_word = some ⟨oc_law_no_word, od_law_no_word, .func (PySem.W.fnOf "_law_no_word" "_law_no_word" (defArgs s_law_no_word) (defBody s_law_no_word) (defScope s_law_no_word) .none kV_law_no_word dc_law_no_word pm_law_no_word an_law_no_word cd_law_no_word ct_law_no_word), sl_law_no_word⟩) (c_law_no_word : PySem.W.codeIn K cd_law_no_word "_law_no_word" = true) (k_law_no_word : PySem.W.keepIn K (.ref f_law_no_word) = true)
    (a_law_number : PySem.W.nsIn K mainGlobals "_law_number" = some (some (.ref f_law_number))) (l_law_number : K.lookup f_law_number = some ⟨oc_law_number, od_law_number, .func (PySem.W.fnOf "_law_number" "_law_number" (defArgs s_law_number) (defBody s_law_number) (defScope s_law_number) .none kV_law_number dc_law_number pm_law_number an_law_number cd_law_number ct_law_number), sl_law_number⟩) (c_law_number : PySem.W.codeIn K cd_law_number "_law_number" = true) (k_law_number : PySem.W.keepIn K (.ref f_law_number) = true)
    (a_law_leaf : PySem.W.nsIn K mainGlobals "_law_leaf" = some (some (.ref f_law_leaf))) (l_law_leaf : K.lookup f_law_leaf = some ⟨oc_law_leaf, od_law_leaf, .func (PySem.W.fnOf "_law_leaf" "_law_leaf" (defArgs s_law_leaf) (defBody s_law_leaf) (defScope s_law_leaf) .none kV_law_leaf dc_law_leaf pm_law_leaf an_law_leaf cd_law_leaf ct_law_leaf), sl_law_leaf⟩) (c_law_leaf : PySem.W.codeIn K cd_law_leaf "_law_leaf" = true) (k_law_leaf : PySem.W.keepIn K (.ref f_law_leaf) = true)
    (a_law_expression : PySem.W.nsIn K mainGlobals "_law_expression" = some (some (.ref f_law_expression))) (l_law_expression : K.lookup f_law_expression = some ⟨oc_law_expression, od_law_expression, .func (PySem.W.fnOf "_law_expression" "_law_expression" (defArgs s_law_expression) (defBody s_law_expression) (defScope s_law_expression) .none kV_law_expression dc_law_expression pm_law_expression an_law_expression cd_law_expression ct_law_expression), sl_law_expression⟩) (c_law_expression : PySem.W.codeIn K cd_law_expression "_law_expression" = true) (k_law_expression : PySem.W.keepIn K (.ref f_law_expression) = true)
    (a_law_test : PySem.W.nsIn K mainGlobals "_law_test" = some (some (.ref f_law_test))) (l_law_test : K.lookup f_law_test = some ⟨oc_law_test, od_law_test, .func (PySem.W.fnOf "_law_test" "_law_test" (defArgs s_law_test) (defBody s_law_test) (defScope s_law_test) .none kV_law_test dc_law_test pm_law_test an_law_test cd_law_test ct_law_test), sl_law_test⟩) (c_law_test : PySem.W.codeIn K cd_law_test "_law_test" = true) (k_law_test : PySem.W.keepIn K (.ref f_law_test) = true)
    (a_law_inner : PySem.W.nsIn K mainGlobals "_law_inner" = some (some (.ref f_law_inner))) (l_law_inner : K.lookup f_law_inner = some ⟨oc_law_inner, od_law_inner, .func (PySem.W.fnOf "_law_inner" "_law_inner" (defArgs s_law_inner) (defBody s_law_inner) (defScope s_law_inner) .none kV_law_inner dc_law_inner pm_law_inner an_law_inner cd_law_inner ct_law_inner), sl_law_inner⟩) (c_law_inner : PySem.W.codeIn K cd_law_inner "_law_inner" = true) (k_law_inner : PySem.W.keepIn K (.ref f_law_inner) = true)
    (a_law_depth : PySem.W.nsIn K mainGlobals "_law_depth" = some (some (.ref f_law_depth))) (l_law_depth : K.lookup f_law_depth = some ⟨oc_law_depth, od_law_depth, .func (PySem.W.fnOf "_law_depth" "_law_depth" (defArgs s_law_depth) (defBody s_law_depth) (defScope s_law_depth) .none kV_law_depth dc_law_depth pm_law_depth an_law_depth cd_law_depth ct_law_depth), sl_law_depth⟩) (c_law_depth : PySem.W.codeIn K cd_law_depth "_law_depth" = true) (k_law_depth : PySem.W.keepIn K (.ref f_law_depth) = true)
    (a_law_is_test : PySem.W.nsIn K mainGlobals "_law_is_test" = some (some (.ref f_law_is_test))) (l_law_is_test : K.lookup f_law_is_test = some ⟨oc_law_is_test, od_law_is_test, .func (PySem.W.fnOf "_law_is_test" "_law_is_test" (defArgs s_law_is_test) (defBody s_law_is_test) (defScope s_law_is_test) .none kV_law_is_test dc_law_is_test pm_law_is_test an_law_is_test cd_law_is_test ct_law_is_test), sl_law_is_test⟩) (c_law_is_test : PySem.W.codeIn K cd_law_is_test "_law_is_test" = true) (k_law_is_test : PySem.W.keepIn K (.ref f_law_is_test) = true)
    (a_law_around : PySem.W.nsIn K mainGlobals "_law_around" = some (some (.ref f_law_around))) (l_law_around : K.lookup f_law_around = some ⟨oc_law_around, od_law_around, .func (PySem.W.fnOf "_law_around" "_law_around" (defArgs s_law_around) (defBody s_law_around) (defScope s_law_around) .none kV_law_around dc_law_around pm_law_around an_law_around cd_law_around ct_law_around), sl_law_around⟩) (c_law_around : PySem.W.codeIn K cd_law_around "_law_around" = true) (k_law_around : PySem.W.keepIn K (.ref f_law_around) = true)
    (a_law_error_name : PySem.W.nsIn K mainGlobals "_law_error_name" = some (some (.ref f_law_error_name))) (l_law_error_name : K.lookup f_law_error_name = some ⟨oc_law_error_name, od_law_error_name, .func (PySem.W.fnOf "_law_error_name" "_law_error_name" (defArgs s_law_error_name) (defBody s_law_error_name) (defScope s_law_error_name) .none kV_law_error_name dc_law_error_name pm_law_error_name an_law_error_name cd_law_error_name ct_law_error_name), sl_law_error_name⟩) (c_law_error_name : PySem.W.codeIn K cd_law_error_name "_law_error_name" = true) (k_law_error_name : PySem.W.keepIn K (.ref f_law_error_name) = true)
    (a_law_bad : PySem.W.nsIn K mainGlobals "_law_bad" = some (some (.ref f_law_bad))) (l_law_bad : K.lookup f_law_bad = some ⟨oc_law_bad, od_law_bad, .func (PySem.W.fnOf "_law_bad" "_law_bad" (defArgs s_law_bad) (defBody s_law_bad) (defScope s_law_bad) .none kV_law_bad dc_law_bad pm_law_bad an_law_bad cd_law_bad ct_law_bad), sl_law_bad⟩) (c_law_bad : PySem.W.codeIn K cd_law_bad "_law_bad" = true) (k_law_bad : PySem.W.keepIn K (.ref f_law_bad) = true)
    (a_law_checked : PySem.W.nsIn K mainGlobals "_law_checked" = some (some (.ref f_law_checked))) (l_law_checked : K.lookup f_law_checked = some ⟨oc_law_checked, od_law_checked, .func (PySem.W.fnOf "_law_checked" "_law_checked" (defArgs s_law_checked) (defBody s_law_checked) (defScope s_law_checked) .none kV_law_checked dc_law_checked pm_law_checked an_law_checked cd_law_checked ct_law_checked), sl_law_checked⟩) (c_law_checked : PySem.W.codeIn K cd_law_checked "_law_checked" = true) (k_law_checked : PySem.W.keepIn K (.ref f_law_checked) = true)
    (alaw : PySem.W.nsIn K mainGlobals "law" = some (some (.ref flaw))) (llaw : K.lookup flaw = some ⟨oclaw, odlaw, .func (PySem.W.fnOf "law" "law" (defArgs slaw) (defBody slaw) (defScope slaw) .none kVlaw dclaw pmlaw anlaw cdlaw ctlaw), sllaw⟩) (claw : PySem.W.codeIn K cdlaw "law" = true) (klaw : PySem.W.keepIn K (.ref flaw) = true)
    (g_LETTERS : PySem.W.nsIn K mainGlobals "LETTERS" = some (some u_LETTERS)) (r_LETTERS : L2.RelV (.str "abcdefghijklmnopqrstuvwxyz") u_LETTERS)
    (g_WORDS : PySem.W.nsIn K mainGlobals "WORDS" = some (some (.ref c_WORDS))) (k_WORDS : KT K c_WORDS [(.str "true"), (.str "false"), (.str "add"), (.str "sub"), (.str "mul"), (.str "div"), (.str "mod"), (.str "min"), (.str "max"), (.str "abs"), (.str "if"), (.str "less"), (.str "equal"), (.str "not"), (.str "all"), (.str "any")])
    (g_MOST_DEPTH : PySem.W.nsIn K mainGlobals "MOST_DEPTH" = some (some u_MOST_DEPTH)) (r_MOST_DEPTH : L2.RelV (.int 12) u_MOST_DEPTH)
    (g_ControlError : PySem.W.nsIn K mainGlobals "ControlError" = some (some (.ref c_ControlError)))
    (g_InvalidExpression : PySem.W.nsIn K mainGlobals "InvalidExpression" = some (some (.ref c_InvalidExpression)))
    (g_InvalidPlant : PySem.W.nsIn K mainGlobals "InvalidPlant" = some (some (.ref c_InvalidPlant)))
    (g_InvalidArena : PySem.W.nsIn K mainGlobals "InvalidArena" = some (some (.ref c_InvalidArena)))
    (g_InvalidGoal : PySem.W.nsIn K mainGlobals "InvalidGoal" = some (some (.ref c_InvalidGoal)))
    (g_BadText : PySem.W.nsIn K mainGlobals "BadText" = some (some (.ref c_BadText)))
    (g_NoPosition : PySem.W.nsIn K mainGlobals "NoPosition" = some (some (.ref c_NoPosition)))
    (g_Held : PySem.W.nsIn K mainGlobals "Held" = some (some (.ref c_Held)))
    (g_NotHeld : PySem.W.nsIn K mainGlobals "NotHeld" = some (some (.ref c_NotHeld)))
    (g_BadReply : PySem.W.nsIn K mainGlobals "BadReply" = some (some (.ref c_BadReply)))
    (g_Lost : PySem.W.nsIn K mainGlobals "Lost" = some (some (.ref c_Lost)))
    (ex_x : PySem.W.excIn K c_InvalidExpression [.type "ValueError", .type "Exception", .type "BaseException", .type "object"] "ValueError.__new__" = true) (ex_k : PySem.W.keepIn K (.ref c_InvalidExpression) = true) (ex_b : PySem.W.subIn K (.ref c_InvalidExpression) (.type "BaseException") = some true) (ex_sV : PySem.W.subIn K (.ref c_InvalidExpression) (.type "ValueError") = some true) (ex_bC : PySem.W.subIn K (.ref c_ControlError) (.type "BaseException") = some true)
    (ex_hg : PySem.W.findIn K (.ref c_InvalidExpression) "__getattribute__" = some (some (.builtin "BaseException.__getattribute__"))) (ex_hk : PySem.W.findIn K (.ref c_InvalidExpression) "__getattr__" = some none) (ex_hd : PySem.W.hasDictIn K c_InvalidExpression = true) (ex_ha : PySem.W.findIn K (.ref c_InvalidExpression) "__class__" = some (some (.builtin "object.__class__"))) (ex_hn : PySem.W.specialIn K (.builtin "object.__class__") "__get__" = some (some (.builtin "getset_descriptor.__get__"))) (ex_ht : PySem.W.takesIn K (.builtin "object.__class__") = some true) (ex_hm : PySem.W.mroIn K c_InvalidExpression (.type "object") = some true)
    (i_ControlError : PySem.W.isClsIn K c_ControlError = true) (t_ControlError : PySem.W.typeIn K (.ref c_ControlError) = some (.type "type")) (s_ControlError : PySem.W.subIn K (.ref c_InvalidExpression) (.ref c_ControlError) = some true)
    (i_InvalidExpression : PySem.W.isClsIn K c_InvalidExpression = true) (t_InvalidExpression : PySem.W.typeIn K (.ref c_InvalidExpression) = some (.type "type")) (s_InvalidExpression : PySem.W.subIn K (.ref c_InvalidExpression) (.ref c_InvalidExpression) = some true)
    (i_InvalidPlant : PySem.W.isClsIn K c_InvalidPlant = true) (t_InvalidPlant : PySem.W.typeIn K (.ref c_InvalidPlant) = some (.type "type")) (s_InvalidPlant : PySem.W.subIn K (.ref c_InvalidExpression) (.ref c_InvalidPlant) = some false)
    (i_InvalidArena : PySem.W.isClsIn K c_InvalidArena = true) (t_InvalidArena : PySem.W.typeIn K (.ref c_InvalidArena) = some (.type "type")) (s_InvalidArena : PySem.W.subIn K (.ref c_InvalidExpression) (.ref c_InvalidArena) = some false)
    (i_InvalidGoal : PySem.W.isClsIn K c_InvalidGoal = true) (t_InvalidGoal : PySem.W.typeIn K (.ref c_InvalidGoal) = some (.type "type")) (s_InvalidGoal : PySem.W.subIn K (.ref c_InvalidExpression) (.ref c_InvalidGoal) = some false)
    (i_BadText : PySem.W.isClsIn K c_BadText = true) (t_BadText : PySem.W.typeIn K (.ref c_BadText) = some (.type "type")) (s_BadText : PySem.W.subIn K (.ref c_InvalidExpression) (.ref c_BadText) = some false)
    (i_NoPosition : PySem.W.isClsIn K c_NoPosition = true) (t_NoPosition : PySem.W.typeIn K (.ref c_NoPosition) = some (.type "type")) (s_NoPosition : PySem.W.subIn K (.ref c_InvalidExpression) (.ref c_NoPosition) = some false)
    (i_Held : PySem.W.isClsIn K c_Held = true) (t_Held : PySem.W.typeIn K (.ref c_Held) = some (.type "type")) (s_Held : PySem.W.subIn K (.ref c_InvalidExpression) (.ref c_Held) = some false)
    (i_NotHeld : PySem.W.isClsIn K c_NotHeld = true) (t_NotHeld : PySem.W.typeIn K (.ref c_NotHeld) = some (.type "type")) (s_NotHeld : PySem.W.subIn K (.ref c_InvalidExpression) (.ref c_NotHeld) = some false)
    (i_BadReply : PySem.W.isClsIn K c_BadReply = true) (t_BadReply : PySem.W.typeIn K (.ref c_BadReply) = some (.type "type")) (s_BadReply : PySem.W.subIn K (.ref c_InvalidExpression) (.ref c_BadReply) = some false)
    (i_Lost : PySem.W.isClsIn K c_Lost = true) (t_Lost : PySem.W.typeIn K (.ref c_Lost) = some (.type "type")) (s_Lost : PySem.W.subIn K (.ref c_InvalidExpression) (.ref c_Lost) = some false)
    (z_ValueError : PySem.W.nsIn K mainGlobals "ValueError" = some none)
    (z_abs : PySem.W.nsIn K mainGlobals "abs" = some none)
    (z_int : PySem.W.nsIn K mainGlobals "int" = some none)
    (z_isinstance : PySem.W.nsIn K mainGlobals "isinstance" = some none)
    (z_len : PySem.W.nsIn K mainGlobals "len" = some none)
    (z_list : PySem.W.nsIn K mainGlobals "list" = some none)
    (z_max : PySem.W.nsIn K mainGlobals "max" = some none)
    (z_range : PySem.W.nsIn K mainGlobals "range" = some none)
    (z_tuple : PySem.W.nsIn K mainGlobals "tuple" = some none)
    : ∃ fd : FuncData, (∀ (s : Shared) (v : Value), BindsTo s fd ⟨[v], []⟩ [("script", v)]) ∧ ∀ base : Heap, K.In base → base.Ns mainGlobals mg → FnOk l.prog w K mg base CX0 30 fa fd ["script"] (spLaw K) := by
  have e := hfa.symm.trans (PySem.W.mg_of X G alaw)
  cases e
  let T : Txt K mg := {
    z_ValueError := PySem.W.mg_none_of X G z_ValueError
    z_abs := PySem.W.mg_none_of X G z_abs
    z_int := PySem.W.mg_none_of X G z_int
    z_isinstance := PySem.W.mg_none_of X G z_isinstance
    z_len := PySem.W.mg_none_of X G z_len
    z_list := PySem.W.mg_none_of X G z_list
    z_max := PySem.W.mg_none_of X G z_max
    z_range := PySem.W.mg_none_of X G z_range
    z_tuple := PySem.W.mg_none_of X G z_tuple
    u_LETTERS := u_LETTERS
    g_LETTERS := PySem.W.mg_of X G g_LETTERS
    r_LETTERS := r_LETTERS
    c_WORDS := c_WORDS
    g_WORDS := PySem.W.mg_of X G g_WORDS
    k_WORDS := k_WORDS
    u_MOST_DEPTH := u_MOST_DEPTH
    g_MOST_DEPTH := PySem.W.mg_of X G g_MOST_DEPTH
    r_MOST_DEPTH := r_MOST_DEPTH
    arun_end := frun_end
    drun_end := _
    Frun_end := fun_mk (st := srun_end) lrun_end crun_end krun_end
    mrun_end := PySem.W.mg_of X G arun_end
    ais_name := fis_name
    dis_name := _
    Fis_name := fun_mk (st := sis_name) lis_name cis_name kis_name
    mis_name := PySem.W.mg_of X G ais_name
    aparts_in := fparts_in
    dparts_in := _
    Fparts_in := fun_mk (st := sparts_in) lparts_in cparts_in kparts_in
    mparts_in := PySem.W.mg_of X G aparts_in
    acheck_expression := fcheck_expression
    dcheck_expression := _
    Fcheck_expression := fun_mk (st := scheck_expression) lcheck_expression ccheck_expression kcheck_expression
    mcheck_expression := PySem.W.mg_of X G acheck_expression
    acheck_condition := fcheck_condition
    dcheck_condition := _
    Fcheck_condition := fun_mk (st := scheck_condition) lcheck_condition ccheck_condition kcheck_condition
    mcheck_condition := PySem.W.mg_of X G acheck_condition
    a_check := f_check
    d_check := _
    F_check := fun_mk (st := s_check) l_check c_check k_check
    m_check := PySem.W.mg_of X G a_check
    a_law_draws := f_law_draws
    d_law_draws := _
    F_law_draws := fun_mk (st := s_law_draws) l_law_draws c_law_draws k_law_draws
    m_law_draws := PySem.W.mg_of X G a_law_draws
    a_law_take := f_law_take
    d_law_take := _
    F_law_take := fun_mk (st := s_law_take) l_law_take c_law_take k_law_take
    m_law_take := PySem.W.mg_of X G a_law_take
    a_law_cell := f_law_cell
    d_law_cell := _
    F_law_cell := fun_mk (st := s_law_cell) l_law_cell c_law_cell k_law_cell
    m_law_cell := PySem.W.mg_of X G a_law_cell
    a_law_word := f_law_word
    d_law_word := _
    F_law_word := fun_mk (st := s_law_word) l_law_word c_law_word k_law_word
    m_law_word := PySem.W.mg_of X G a_law_word
    a_law_some_word := f_law_some_word
    d_law_some_word := _
    F_law_some_word := fun_mk (st := s_law_some_word) l_law_some_word c_law_some_word k_law_some_word
    m_law_some_word := PySem.W.mg_of X G a_law_some_word
    a_law_reserved := f_law_reserved
    d_law_reserved := _
    F_law_reserved := fun_mk (st := s_law_reserved) l_law_reserved c_law_reserved k_law_reserved
    m_law_reserved := PySem.W.mg_of X G a_law_reserved
    a_law_name := f_law_name
    d_law_name := _
    F_law_name := fun_mk (st := s_law_name) l_law_name c_law_name k_law_name
    m_law_name := PySem.W.mg_of X G a_law_name
    a_law_names := f_law_names
    d_law_names := _
    F_law_names := fun_mk (st := s_law_names) l_law_names c_law_names k_law_names
    m_law_names := PySem.W.mg_of X G a_law_names
    a_law_no_word := f_law_no_word
    d_law_no_word := _
    F_law_no_word := fun_mk (st := s_law_no_word) l_law_no_word c_law_no_word k_law_no_word
    m_law_no_word := PySem.W.mg_of X G a_law_no_word
    a_law_number := f_law_number
    d_law_number := _
    F_law_number := fun_mk (st := s_law_number) l_law_number c_law_number k_law_number
    m_law_number := PySem.W.mg_of X G a_law_number
    a_law_leaf := f_law_leaf
    d_law_leaf := _
    F_law_leaf := fun_mk (st := s_law_leaf) l_law_leaf c_law_leaf k_law_leaf
    m_law_leaf := PySem.W.mg_of X G a_law_leaf
    a_law_expression := f_law_expression
    d_law_expression := _
    F_law_expression := fun_mk (st := s_law_expression) l_law_expression c_law_expression k_law_expression
    m_law_expression := PySem.W.mg_of X G a_law_expression
    a_law_test := f_law_test
    d_law_test := _
    F_law_test := fun_mk (st := s_law_test) l_law_test c_law_test k_law_test
    m_law_test := PySem.W.mg_of X G a_law_test
    a_law_inner := f_law_inner
    d_law_inner := _
    F_law_inner := fun_mk (st := s_law_inner) l_law_inner c_law_inner k_law_inner
    m_law_inner := PySem.W.mg_of X G a_law_inner
    a_law_depth := f_law_depth
    d_law_depth := _
    F_law_depth := fun_mk (st := s_law_depth) l_law_depth c_law_depth k_law_depth
    m_law_depth := PySem.W.mg_of X G a_law_depth
    a_law_is_test := f_law_is_test
    d_law_is_test := _
    F_law_is_test := fun_mk (st := s_law_is_test) l_law_is_test c_law_is_test k_law_is_test
    m_law_is_test := PySem.W.mg_of X G a_law_is_test
    a_law_around := f_law_around
    d_law_around := _
    F_law_around := fun_mk (st := s_law_around) l_law_around c_law_around k_law_around
    m_law_around := PySem.W.mg_of X G a_law_around
    a_law_error_name := f_law_error_name
    d_law_error_name := _
    F_law_error_name := fun_mk (st := s_law_error_name) l_law_error_name c_law_error_name k_law_error_name
    m_law_error_name := PySem.W.mg_of X G a_law_error_name
    a_law_bad := f_law_bad
    d_law_bad := _
    F_law_bad := fun_mk (st := s_law_bad) l_law_bad c_law_bad k_law_bad
    m_law_bad := PySem.W.mg_of X G a_law_bad
    a_law_checked := f_law_checked
    d_law_checked := _
    F_law_checked := fun_mk (st := s_law_checked) l_law_checked c_law_checked k_law_checked
    m_law_checked := PySem.W.mg_of X G a_law_checked
    alaw := fa
    dlaw := _
    Flaw := fun_mk (st := slaw) llaw claw klaw
    mlaw := PySem.W.mg_of X G alaw }
  refine ⟨T.dlaw, fun s v => .of_eq rfl, fun base _ _ => ?_⟩
  let EX : Exs K mg := {
    c_ControlError := c_ControlError
    g_ControlError := PySem.W.mg_of X G g_ControlError
    c_InvalidExpression := c_InvalidExpression
    g_InvalidExpression := PySem.W.mg_of X G g_InvalidExpression
    c_InvalidPlant := c_InvalidPlant
    g_InvalidPlant := PySem.W.mg_of X G g_InvalidPlant
    c_InvalidArena := c_InvalidArena
    g_InvalidArena := PySem.W.mg_of X G g_InvalidArena
    c_InvalidGoal := c_InvalidGoal
    g_InvalidGoal := PySem.W.mg_of X G g_InvalidGoal
    c_BadText := c_BadText
    g_BadText := PySem.W.mg_of X G g_BadText
    c_NoPosition := c_NoPosition
    g_NoPosition := PySem.W.mg_of X G g_NoPosition
    c_Held := c_Held
    g_Held := PySem.W.mg_of X G g_Held
    c_NotHeld := c_NotHeld
    g_NotHeld := PySem.W.mg_of X G g_NotHeld
    c_BadReply := c_BadReply
    g_BadReply := PySem.W.mg_of X G g_BadReply
    c_Lost := c_Lost
    g_Lost := PySem.W.mg_of X G g_Lost
    x := ex_x
    k := ex_k
    b := ex_b
    sV := ex_sV
    bC := ex_bC
    ec := ⟨ex_hg, ex_hk, ex_b, ex_hd, ex_ha, ex_hn, ex_ht, ex_hm⟩
    i_ControlError := i_ControlError
    t_ControlError := t_ControlError
    s_ControlError := s_ControlError
    i_InvalidExpression := i_InvalidExpression
    t_InvalidExpression := t_InvalidExpression
    s_InvalidExpression := s_InvalidExpression
    i_InvalidPlant := i_InvalidPlant
    t_InvalidPlant := t_InvalidPlant
    s_InvalidPlant := s_InvalidPlant
    i_InvalidArena := i_InvalidArena
    t_InvalidArena := t_InvalidArena
    s_InvalidArena := s_InvalidArena
    i_InvalidGoal := i_InvalidGoal
    t_InvalidGoal := t_InvalidGoal
    s_InvalidGoal := s_InvalidGoal
    i_BadText := i_BadText
    t_BadText := t_BadText
    s_BadText := s_BadText
    i_NoPosition := i_NoPosition
    t_NoPosition := t_NoPosition
    s_NoPosition := s_NoPosition
    i_Held := i_Held
    t_Held := t_Held
    s_Held := s_Held
    i_NotHeld := i_NotHeld
    t_NotHeld := t_NotHeld
    s_NotHeld := s_NotHeld
    i_BadReply := i_BadReply
    t_BadReply := t_BadReply
    s_BadReply := s_BadReply
    i_Lost := i_Lost
    t_Lost := t_Lost
    s_Lost := s_Lost }
  exact ok_law T EX
end NL
open PySem PySem.W PyProof.Rows
set_option maxRecDepth 100000 in
set_option maxHeartbeats 0 in
theorem PySem.Challenge.cw_neverleaves_k01_valid_expressions_holds : PySem.Challenge.rw_neverleaves_k01_valid_expressions.Holds := by
  w_on; o_law; k_head; (case hw => w_witness2)
  k_fill
  refine L2.walk_of (l := PySem.Challenge.rw_neverleaves_k01_valid_expressions) (n := 63) (k := 30) (x := "script") (CX := fun _ => L2.CX0) (sp := fun w => NL.spLaw _) rfl (by decide) rfl ⟨rfl, by decide, by decide⟩ (fun w h Y => PySem.W.kIn_of Y) ?F (fun _ _ a ns hl _ hS => ⟨a, ns, rfl, hS, hl, fun _ => rfl⟩) (fun _ _ _ _ _ h => h)
  case F =>
    intro w mg fa h KX G hmg
    refine' NL.all_mk KX G hmg ?arun_end ?lrun_end ?crun_end ?krun_end ?ais_name ?lis_name ?cis_name ?kis_name ?aparts_in ?lparts_in ?cparts_in ?kparts_in ?acheck_expression ?lcheck_expression ?ccheck_expression ?kcheck_expression ?acheck_condition ?lcheck_condition ?ccheck_condition ?kcheck_condition ?a_check ?l_check ?c_check ?k_check ?a_law_draws ?l_law_draws ?c_law_draws ?k_law_draws ?a_law_take ?l_law_take ?c_law_take ?k_law_take ?a_law_cell ?l_law_cell ?c_law_cell ?k_law_cell ?a_law_word ?l_law_word ?c_law_word ?k_law_word ?a_law_some_word ?l_law_some_word ?c_law_some_word ?k_law_some_word ?a_law_reserved ?l_law_reserved ?c_law_reserved ?k_law_reserved ?a_law_name ?l_law_name ?c_law_name ?k_law_name ?a_law_names ?l_law_names ?c_law_names ?k_law_names ?a_law_no_word ?l_law_no_word ?c_law_no_word ?k_law_no_word ?a_law_number ?l_law_number ?c_law_number ?k_law_number ?a_law_leaf ?l_law_leaf ?c_law_leaf ?k_law_leaf ?a_law_expression ?l_law_expression ?c_law_expression ?k_law_expression ?a_law_test ?l_law_test ?c_law_test ?k_law_test ?a_law_inner ?l_law_inner ?c_law_inner ?k_law_inner ?a_law_depth ?l_law_depth ?c_law_depth ?k_law_depth ?a_law_is_test ?l_law_is_test ?c_law_is_test ?k_law_is_test ?a_law_around ?l_law_around ?c_law_around ?k_law_around ?a_law_error_name ?l_law_error_name ?c_law_error_name ?k_law_error_name ?a_law_bad ?l_law_bad ?c_law_bad ?k_law_bad ?a_law_checked ?l_law_checked ?c_law_checked ?k_law_checked ?alaw ?llaw ?claw ?klaw ?g_LETTERS ?r_LETTERS ?g_WORDS ?k_WORDS ?g_MOST_DEPTH ?r_MOST_DEPTH ?g_ControlError ?g_InvalidExpression ?g_InvalidPlant ?g_InvalidArena ?g_InvalidGoal ?g_BadText ?g_NoPosition ?g_Held ?g_NotHeld ?g_BadReply ?g_Lost ?ex_x ?ex_k ?ex_b ?ex_sV ?ex_bC ?ex_hg ?ex_hk ?ex_hd ?ex_ha ?ex_hn ?ex_ht ?ex_hm ?i_ControlError ?t_ControlError ?s_ControlError ?i_InvalidExpression ?t_InvalidExpression ?s_InvalidExpression ?i_InvalidPlant ?t_InvalidPlant ?s_InvalidPlant ?i_InvalidArena ?t_InvalidArena ?s_InvalidArena ?i_InvalidGoal ?t_InvalidGoal ?s_InvalidGoal ?i_BadText ?t_BadText ?s_BadText ?i_NoPosition ?t_NoPosition ?s_NoPosition ?i_Held ?t_Held ?s_Held ?i_NotHeld ?t_NotHeld ?s_NotHeld ?i_BadReply ?t_BadReply ?s_BadReply ?i_Lost ?t_Lost ?s_Lost ?z_ValueError ?z_abs ?z_int ?z_isinstance ?z_len ?z_list ?z_max ?z_range ?z_tuple
    (case arun_end => k_is); (case lrun_end => k_is); (case crun_end => k_is); (case krun_end => k_is)
    (case ais_name => k_is); (case lis_name => k_is); (case cis_name => k_is); (case kis_name => k_is)
    (case aparts_in => k_is); (case lparts_in => k_is); (case cparts_in => k_is); (case kparts_in => k_is)
    (case acheck_expression => k_is); (case lcheck_expression => k_is); (case ccheck_expression => k_is); (case kcheck_expression => k_is)
    (case acheck_condition => k_is); (case lcheck_condition => k_is); (case ccheck_condition => k_is); (case kcheck_condition => k_is)
    (case a_check => k_is); (case l_check => k_is); (case c_check => k_is); (case k_check => k_is)
    (case a_law_draws => k_is); (case l_law_draws => k_is); (case c_law_draws => k_is); (case k_law_draws => k_is)
    (case a_law_take => k_is); (case l_law_take => k_is); (case c_law_take => k_is); (case k_law_take => k_is)
    (case a_law_cell => k_is); (case l_law_cell => k_is); (case c_law_cell => k_is); (case k_law_cell => k_is)
    (case a_law_word => k_is); (case l_law_word => k_is); (case c_law_word => k_is); (case k_law_word => k_is)
    (case a_law_some_word => k_is); (case l_law_some_word => k_is); (case c_law_some_word => k_is); (case k_law_some_word => k_is)
    (case a_law_reserved => k_is); (case l_law_reserved => k_is); (case c_law_reserved => k_is); (case k_law_reserved => k_is)
    (case a_law_name => k_is); (case l_law_name => k_is); (case c_law_name => k_is); (case k_law_name => k_is)
    (case a_law_names => k_is); (case l_law_names => k_is); (case c_law_names => k_is); (case k_law_names => k_is)
    (case a_law_no_word => k_is); (case l_law_no_word => k_is); (case c_law_no_word => k_is); (case k_law_no_word => k_is)
    (case a_law_number => k_is); (case l_law_number => k_is); (case c_law_number => k_is); (case k_law_number => k_is)
    (case a_law_leaf => k_is); (case l_law_leaf => k_is); (case c_law_leaf => k_is); (case k_law_leaf => k_is)
    (case a_law_expression => k_is); (case l_law_expression => k_is); (case c_law_expression => k_is); (case k_law_expression => k_is)
    (case a_law_test => k_is); (case l_law_test => k_is); (case c_law_test => k_is); (case k_law_test => k_is)
    (case a_law_inner => k_is); (case l_law_inner => k_is); (case c_law_inner => k_is); (case k_law_inner => k_is)
    (case a_law_depth => k_is); (case l_law_depth => k_is); (case c_law_depth => k_is); (case k_law_depth => k_is)
    (case a_law_is_test => k_is); (case l_law_is_test => k_is); (case c_law_is_test => k_is); (case k_law_is_test => k_is)
    (case a_law_around => k_is); (case l_law_around => k_is); (case c_law_around => k_is); (case k_law_around => k_is)
    (case a_law_error_name => k_is); (case l_law_error_name => k_is); (case c_law_error_name => k_is); (case k_law_error_name => k_is)
    (case a_law_bad => k_is); (case l_law_bad => k_is); (case c_law_bad => k_is); (case k_law_bad => k_is)
    (case a_law_checked => k_is); (case l_law_checked => k_is); (case c_law_checked => k_is); (case k_law_checked => k_is)
    (case alaw => k_is); (case llaw => k_is); (case claw => k_is); (case klaw => k_is)
    (case g_LETTERS => k_is); (case r_LETTERS => exact ⟨_, rfl⟩)
    (case g_WORDS => k_is); (case k_WORDS => (refine' NL.kt_mk ?h1 ?h2 ?h3 ?h4 ?h5; (case h1 => k_is); (case h2 => rfl); (case h3 => rfl); (case h4 => decide); (case h5 => repeat (first | exact .nil | refine .cons ⟨_, rfl⟩ ?_))))
    (case g_MOST_DEPTH => k_is); (case r_MOST_DEPTH => exact ⟨_, rfl⟩)
    (case g_ControlError => k_is)
    (case g_InvalidExpression => k_is)
    (case g_InvalidPlant => k_is)
    (case g_InvalidArena => k_is)
    (case g_InvalidGoal => k_is)
    (case g_BadText => k_is)
    (case g_NoPosition => k_is)
    (case g_Held => k_is)
    (case g_NotHeld => k_is)
    (case g_BadReply => k_is)
    (case g_Lost => k_is)
    (case i_ControlError => k_is); (case t_ControlError => k_is); (case s_ControlError => first | rfl | k_is)
    (case i_InvalidExpression => k_is); (case t_InvalidExpression => k_is); (case s_InvalidExpression => first | rfl | k_is)
    (case i_InvalidPlant => k_is); (case t_InvalidPlant => k_is); (case s_InvalidPlant => first | rfl | k_is)
    (case i_InvalidArena => k_is); (case t_InvalidArena => k_is); (case s_InvalidArena => first | rfl | k_is)
    (case i_InvalidGoal => k_is); (case t_InvalidGoal => k_is); (case s_InvalidGoal => first | rfl | k_is)
    (case i_BadText => k_is); (case t_BadText => k_is); (case s_BadText => first | rfl | k_is)
    (case i_NoPosition => k_is); (case t_NoPosition => k_is); (case s_NoPosition => first | rfl | k_is)
    (case i_Held => k_is); (case t_Held => k_is); (case s_Held => first | rfl | k_is)
    (case i_NotHeld => k_is); (case t_NotHeld => k_is); (case s_NotHeld => first | rfl | k_is)
    (case i_BadReply => k_is); (case t_BadReply => k_is); (case s_BadReply => first | rfl | k_is)
    (case i_Lost => k_is); (case t_Lost => k_is); (case s_Lost => first | rfl | k_is)
    (case ex_x => k_exc); (case ex_k => k_is); (case ex_b => k_is); (case ex_sV => k_is); (case ex_bC => k_is); (case ex_hg => k_is); (case ex_hk => k_is); (case ex_hd => k_is); (case ex_ha => k_is); (case ex_hn => first | rfl | decide +kernel | k_is); (case ex_ht => first | rfl | decide +kernel | k_is); (case ex_hm => k_is)
    (case z_ValueError => k_is)
    (case z_abs => k_is)
    (case z_int => k_is)
    (case z_isinstance => k_is)
    (case z_len => k_is)
    (case z_list => k_is)
    (case z_max => k_is)
    (case z_range => k_is)
    (case z_tuple => k_is)
