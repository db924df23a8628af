import PyProof.Rows.All
import Wide.All
import OpenK.AllK
import Wide.FinOn
import HandS.ForExc
import HandS.ForMost
import HandS.TupAny
import HandS.IsInst
import HandS.Codes
import HandS.FStr
import HandS.Zip
import HandS.HotCalls
import HandS.ExcIs
import HandS.ExcCtx
import HandS.More
import HandS.Text
import HandS.ExcInitHot
import HandS.ExcField
import KE.KExcIs
import HandS.Conv
import HandS.TupLe
import KE.KxIndex
import PySem.Challenge.RW_neverleaves_k41_right_goals
set_option Elab.async false
set_option linter.all false
set_option maxRecDepth 100000

namespace NL
open PySem PySem.Spec PyProof.Rows L2
def topS (i : Nat) : Stmt := PySem.Challenge.pw_neverleaves_k41_right_goals.main.body.getD i (.Pass ⟨0, 0, 0, 0⟩)
abbrev scheck_goal : Stmt := topS 13
abbrev Ncheck_goal : List Str := ["arena", "goal", "kind", "told", "colour", "row", "options"]
abbrev Pcheck_goal : List Str := ["arena", "goal"]
theorem sccheck_goal : FnScope Ncheck_goal Pcheck_goal (defScope scheck_goal) := ⟨rfl, rfl, rfl, by decide +kernel, rfl, by decide +kernel, by decide +kernel⟩
abbrev sis_ascending : Stmt := topS 14
abbrev Nis_ascending : List Str := ["numbers", "low", "end", "least", "number"]
abbrev Pis_ascending : List Str := ["numbers", "low", "end"]
theorem scis_ascending : FnScope Nis_ascending Pis_ascending (defScope sis_ascending) := ⟨rfl, rfl, rfl, by decide +kernel, rfl, by decide +kernel, by decide +kernel⟩
abbrev s_law_draws : Stmt := topS 16
abbrev N_law_draws : List Str := ["script", "many", "cells", "cell", "rest", "draws", "k", "at", "once"]
abbrev P_law_draws : List Str := ["script", "many"]
theorem sc_law_draws : FnScope N_law_draws P_law_draws (defScope s_law_draws) := ⟨rfl, rfl, rfl, by decide +kernel, rfl, by decide +kernel, by decide +kernel⟩
abbrev s_law_take : Stmt := topS 17
abbrev N_law_take : List Str := ["draws", "many"]
abbrev P_law_take : List Str := ["draws", "many"]
theorem sc_law_take : FnScope N_law_take P_law_take (defScope s_law_take) := ⟨rfl, rfl, rfl, by decide +kernel, rfl, by decide +kernel, by decide +kernel⟩
abbrev s_law_cell : Stmt := topS 18
abbrev N_law_cell : List Str := ["script", "draws"]
abbrev P_law_cell : List Str := ["script", "draws"]
theorem sc_law_cell : FnScope N_law_cell P_law_cell (defScope s_law_cell) := ⟨rfl, rfl, rfl, by decide +kernel, rfl, by decide +kernel, by decide +kernel⟩
abbrev s_law_option : Stmt := topS 19
abbrev N_law_option : List Str := ["draws", "count", "k", "shape", "found", "i", "successor"]
abbrev P_law_option : List Str := ["draws", "count", "k", "shape"]
theorem sc_law_option : FnScope N_law_option P_law_option (defScope s_law_option) := ⟨rfl, rfl, rfl, by decide +kernel, rfl, by decide +kernel, by decide +kernel⟩
abbrev s_law_arena : Stmt := topS 20
abbrev N_law_arena : List Str := ["draws", "most", "count", "shape", "arena", "k", "many", "j", "at", "more", "every"]
abbrev P_law_arena : List Str := ["draws", "most"]
theorem sc_law_arena : FnScope N_law_arena P_law_arena (defScope s_law_arena) := ⟨rfl, rfl, rfl, by decide +kernel, rfl, by decide +kernel, by decide +kernel⟩
abbrev s_law_colours : Stmt := topS 21
abbrev N_law_colours : List Str := ["draws", "arena", "most", "factor", "plus", "options"]
abbrev P_law_colours : List Str := ["draws", "arena"]
theorem sc_law_colours : FnScope N_law_colours P_law_colours (defScope s_law_colours) := ⟨rfl, rfl, rfl, by decide +kernel, rfl, by decide +kernel, by decide +kernel⟩
abbrev s_law_class : Stmt := topS 22
abbrev N_law_class : List Str := ["e", "found"]
abbrev P_law_class : List Str := ["e"]
theorem sc_law_class : FnScope N_law_class P_law_class (defScope s_law_class) := ⟨rfl, rfl, rfl, by decide +kernel, rfl, by decide +kernel, by decide +kernel⟩
abbrev s_law_only : Stmt := topS 23
abbrev N_law_only : List Str := ["at", "k"]
abbrev P_law_only : List Str := ["at"]
theorem sc_law_only : FnScope N_law_only P_law_only (defScope s_law_only) := ⟨rfl, rfl, rfl, by decide +kernel, rfl, by decide +kernel, by decide +kernel⟩
abbrev s_law_places : Stmt := topS 24
abbrev N_law_places : List Str := ["draws", "arena", "k"]
abbrev P_law_places : List Str := ["draws", "arena"]
theorem sc_law_places : FnScope N_law_places P_law_places (defScope s_law_places) := ⟨rfl, rfl, rfl, by decide +kernel, rfl, by decide +kernel, by decide +kernel⟩
abbrev s_law_wrong_places : Stmt := topS 25
abbrev N_law_wrong_places : List Str := ["draws", "script", "arena", "places", "kind", "far", "at"]
abbrev P_law_wrong_places : List Str := ["draws", "script", "arena", "places"]
theorem sc_law_wrong_places : FnScope N_law_wrong_places P_law_wrong_places (defScope s_law_wrong_places) := ⟨rfl, rfl, rfl, by decide +kernel, rfl, by decide +kernel, by decide +kernel⟩
abbrev s_law_wrong_colours : Stmt := topS 26
abbrev N_law_wrong_colours : List Str := ["draws", "colours", "kind", "at"]
abbrev P_law_wrong_colours : List Str := ["draws", "colours"]
theorem sc_law_wrong_colours : FnScope N_law_wrong_colours P_law_wrong_colours (defScope s_law_wrong_colours) := ⟨rfl, rfl, rfl, by decide +kernel, rfl, by decide +kernel, by decide +kernel⟩
abbrev s_law_moved : Stmt := topS 27
abbrev N_law_moved : List Str := ["draws", "gains", "full", "k", "one", "other", "rows"]
abbrev P_law_moved : List Str := ["draws", "gains"]
theorem sc_law_moved : FnScope N_law_moved P_law_moved (defScope s_law_moved) := ⟨rfl, rfl, rfl, by decide +kernel, rfl, by decide +kernel, by decide +kernel⟩
abbrev s_law_wrong_gains : Stmt := topS 28
abbrev N_law_wrong_gains : List Str := ["draws", "gains", "kind", "at"]
abbrev P_law_wrong_gains : List Str := ["draws", "gains"]
theorem sc_law_wrong_gains : FnScope N_law_wrong_gains P_law_wrong_gains (defScope s_law_wrong_gains) := ⟨rfl, rfl, rfl, by decide +kernel, rfl, by decide +kernel, by decide +kernel⟩
abbrev s_law_checked : Stmt := topS 29
abbrev N_law_checked : List Str := ["arena", "goal", "answer", "e"]
abbrev P_law_checked : List Str := ["arena", "goal"]
theorem sc_law_checked : FnScope N_law_checked P_law_checked (defScope s_law_checked) := ⟨rfl, rfl, rfl, by decide +kernel, rfl, by decide +kernel, by decide +kernel⟩
abbrev slaw : Stmt := topS 30
abbrev Nlaw : List Str := ["script", "draws", "arena", "places", "colours", "size", "gains", "option", "options", "right", "goal", "wrong"]
abbrev Plaw : List Str := ["script"]
theorem sclaw : FnScope Nlaw Plaw (defScope slaw) := ⟨rfl, rfl, rfl, by decide +kernel, rfl, by decide +kernel, by decide +kernel⟩
def KT (K : PySem.W.Frag) (a : Addr) (ys : List V) : Prop := ∃ o its n, List.lookup a K = some o ∧ o.cls = .type "tuple" ∧ o.data = .seq its n ∧ its.size ≤ sizeLine ∧ L2.Vals ys its.toList
theorem kt_mk {K : PySem.W.Frag} {a : Addr} {ys : List V} {o : Obj} {its : Array Value} {n : Nat} (h1 : List.lookup a K = some o) (h2 : o.cls = .type "tuple") (h3 : o.data = .seq its n) (h4 : its.size ≤ sizeLine) (h5 : L2.Vals ys its.toList) : KT K a ys := ⟨o, its, n, h1, h2, h3, h4, h5⟩
structure Txt (K : PySem.W.Frag) (mg : Str → Option Value) where
  z_ValueError : mg "ValueError" = none
  z_abs : mg "abs" = none
  z_any : mg "any" = none
  z_int : mg "int" = none
  z_isinstance : mg "isinstance" = none
  z_len : mg "len" = none
  z_list : mg "list" = none
  z_max : mg "max" = none
  z_range : mg "range" = none
  z_sorted : mg "sorted" = none
  z_tuple : mg "tuple" = none
  z_zip : mg "zip" = none
  acheck_goal : Addr
  dcheck_goal : FuncData
  Fcheck_goal : Fun K "check_goal" "check_goal" scheck_goal acheck_goal dcheck_goal
  mcheck_goal : mg "check_goal" = some (.ref acheck_goal)
  ais_ascending : Addr
  dis_ascending : FuncData
  Fis_ascending : Fun K "is_ascending" "is_ascending" sis_ascending ais_ascending dis_ascending
  mis_ascending : mg "is_ascending" = some (.ref ais_ascending)
  a_law_draws : Addr
  d_law_draws : FuncData
  F_law_draws : Fun K "_law_draws" "_law_draws" s_law_draws a_law_draws d_law_draws
  m_law_draws : mg "_law_draws" = some (.ref a_law_draws)
  a_law_take : Addr
  d_law_take : FuncData
  F_law_take : Fun K "_law_take" "_law_take" s_law_take a_law_take d_law_take
  m_law_take : mg "_law_take" = some (.ref a_law_take)
  a_law_cell : Addr
  d_law_cell : FuncData
  F_law_cell : Fun K "_law_cell" "_law_cell" s_law_cell a_law_cell d_law_cell
  m_law_cell : mg "_law_cell" = some (.ref a_law_cell)
  a_law_option : Addr
  d_law_option : FuncData
  F_law_option : Fun K "_law_option" "_law_option" s_law_option a_law_option d_law_option
  m_law_option : mg "_law_option" = some (.ref a_law_option)
  a_law_arena : Addr
  d_law_arena : FuncData
  F_law_arena : Fun K "_law_arena" "_law_arena" s_law_arena a_law_arena d_law_arena
  m_law_arena : mg "_law_arena" = some (.ref a_law_arena)
  a_law_colours : Addr
  d_law_colours : FuncData
  F_law_colours : Fun K "_law_colours" "_law_colours" s_law_colours a_law_colours d_law_colours
  m_law_colours : mg "_law_colours" = some (.ref a_law_colours)
  a_law_class : Addr
  d_law_class : FuncData
  F_law_class : Fun K "_law_class" "_law_class" s_law_class a_law_class d_law_class
  m_law_class : mg "_law_class" = some (.ref a_law_class)
  a_law_only : Addr
  d_law_only : FuncData
  F_law_only : Fun K "_law_only" "_law_only" s_law_only a_law_only d_law_only
  m_law_only : mg "_law_only" = some (.ref a_law_only)
  a_law_places : Addr
  d_law_places : FuncData
  F_law_places : Fun K "_law_places" "_law_places" s_law_places a_law_places d_law_places
  m_law_places : mg "_law_places" = some (.ref a_law_places)
  a_law_wrong_places : Addr
  d_law_wrong_places : FuncData
  F_law_wrong_places : Fun K "_law_wrong_places" "_law_wrong_places" s_law_wrong_places a_law_wrong_places d_law_wrong_places
  m_law_wrong_places : mg "_law_wrong_places" = some (.ref a_law_wrong_places)
  a_law_wrong_colours : Addr
  d_law_wrong_colours : FuncData
  F_law_wrong_colours : Fun K "_law_wrong_colours" "_law_wrong_colours" s_law_wrong_colours a_law_wrong_colours d_law_wrong_colours
  m_law_wrong_colours : mg "_law_wrong_colours" = some (.ref a_law_wrong_colours)
  a_law_moved : Addr
  d_law_moved : FuncData
  F_law_moved : Fun K "_law_moved" "_law_moved" s_law_moved a_law_moved d_law_moved
  m_law_moved : mg "_law_moved" = some (.ref a_law_moved)
  a_law_wrong_gains : Addr
  d_law_wrong_gains : FuncData
  F_law_wrong_gains : Fun K "_law_wrong_gains" "_law_wrong_gains" s_law_wrong_gains a_law_wrong_gains d_law_wrong_gains
  m_law_wrong_gains : mg "_law_wrong_gains" = some (.ref a_law_wrong_gains)
  a_law_checked : Addr
  d_law_checked : FuncData
  F_law_checked : Fun K "_law_checked" "_law_checked" s_law_checked a_law_checked d_law_checked
  m_law_checked : mg "_law_checked" = some (.ref a_law_checked)
  alaw : Addr
  dlaw : FuncData
  Flaw : Fun K "law" "law" slaw alaw dlaw
  mlaw : mg "law" = some (.ref alaw)
structure Exs (K : PySem.W.Frag) (mg : Str → Option Value) where
  c_ControlError : Addr
  g_ControlError : mg "ControlError" = some (.ref c_ControlError)
  c_InvalidExpression : Addr
  g_InvalidExpression : mg "InvalidExpression" = some (.ref c_InvalidExpression)
  c_InvalidPlant : Addr
  g_InvalidPlant : mg "InvalidPlant" = some (.ref c_InvalidPlant)
  c_InvalidArena : Addr
  g_InvalidArena : mg "InvalidArena" = some (.ref c_InvalidArena)
  c_InvalidGoal : Addr
  g_InvalidGoal : mg "InvalidGoal" = some (.ref c_InvalidGoal)
  c_BadText : Addr
  g_BadText : mg "BadText" = some (.ref c_BadText)
  c_NoPosition : Addr
  g_NoPosition : mg "NoPosition" = some (.ref c_NoPosition)
  c_Held : Addr
  g_Held : mg "Held" = some (.ref c_Held)
  c_NotHeld : Addr
  g_NotHeld : mg "NotHeld" = some (.ref c_NotHeld)
  c_BadReply : Addr
  g_BadReply : mg "BadReply" = some (.ref c_BadReply)
  c_Lost : Addr
  g_Lost : mg "Lost" = some (.ref c_Lost)
  x : PySem.W.excIn K c_InvalidGoal [.type "ValueError", .type "Exception", .type "BaseException", .type "object"] "ValueError.__new__" = true
  k : PySem.W.keepIn K (.ref c_InvalidGoal) = true
  b : PySem.W.subIn K (.ref c_InvalidGoal) (.type "BaseException") = some true
  sV : PySem.W.subIn K (.ref c_InvalidGoal) (.type "ValueError") = some true
  bC : PySem.W.subIn K (.ref c_ControlError) (.type "BaseException") = some true
  ec : ExcC K c_InvalidGoal
  i_ControlError : PySem.W.isClsIn K c_ControlError = true
  t_ControlError : PySem.W.typeIn K (.ref c_ControlError) = some (.type "type")
  s_ControlError : PySem.W.subIn K (.ref c_InvalidGoal) (.ref c_ControlError) = some true
  i_InvalidExpression : PySem.W.isClsIn K c_InvalidExpression = true
  t_InvalidExpression : PySem.W.typeIn K (.ref c_InvalidExpression) = some (.type "type")
  s_InvalidExpression : PySem.W.subIn K (.ref c_InvalidGoal) (.ref c_InvalidExpression) = some false
  i_InvalidPlant : PySem.W.isClsIn K c_InvalidPlant = true
  t_InvalidPlant : PySem.W.typeIn K (.ref c_InvalidPlant) = some (.type "type")
  s_InvalidPlant : PySem.W.subIn K (.ref c_InvalidGoal) (.ref c_InvalidPlant) = some false
  i_InvalidArena : PySem.W.isClsIn K c_InvalidArena = true
  t_InvalidArena : PySem.W.typeIn K (.ref c_InvalidArena) = some (.type "type")
  s_InvalidArena : PySem.W.subIn K (.ref c_InvalidGoal) (.ref c_InvalidArena) = some false
  i_InvalidGoal : PySem.W.isClsIn K c_InvalidGoal = true
  t_InvalidGoal : PySem.W.typeIn K (.ref c_InvalidGoal) = some (.type "type")
  s_InvalidGoal : PySem.W.subIn K (.ref c_InvalidGoal) (.ref c_InvalidGoal) = some true
  i_BadText : PySem.W.isClsIn K c_BadText = true
  t_BadText : PySem.W.typeIn K (.ref c_BadText) = some (.type "type")
  s_BadText : PySem.W.subIn K (.ref c_InvalidGoal) (.ref c_BadText) = some false
  i_NoPosition : PySem.W.isClsIn K c_NoPosition = true
  t_NoPosition : PySem.W.typeIn K (.ref c_NoPosition) = some (.type "type")
  s_NoPosition : PySem.W.subIn K (.ref c_InvalidGoal) (.ref c_NoPosition) = some false
  i_Held : PySem.W.isClsIn K c_Held = true
  t_Held : PySem.W.typeIn K (.ref c_Held) = some (.type "type")
  s_Held : PySem.W.subIn K (.ref c_InvalidGoal) (.ref c_Held) = some false
  i_NotHeld : PySem.W.isClsIn K c_NotHeld = true
  t_NotHeld : PySem.W.typeIn K (.ref c_NotHeld) = some (.type "type")
  s_NotHeld : PySem.W.subIn K (.ref c_InvalidGoal) (.ref c_NotHeld) = some false
  i_BadReply : PySem.W.isClsIn K c_BadReply = true
  t_BadReply : PySem.W.typeIn K (.ref c_BadReply) = some (.type "type")
  s_BadReply : PySem.W.subIn K (.ref c_InvalidGoal) (.ref c_BadReply) = some false
  i_Lost : PySem.W.isClsIn K c_Lost = true
  t_Lost : PySem.W.typeIn K (.ref c_Lost) = some (.type "type")
  s_Lost : PySem.W.subIn K (.ref c_InvalidGoal) (.ref c_Lost) = some false
theorem Txt.bcheck_goal {K : PySem.W.Frag} {mg : Str → Option Value} (T : Txt K mg) : Binds K T.dcheck_goal Pcheck_goal [] := T.Fcheck_goal.binds fun _ _ _ _ _ _ us hl => match us, hl with | [_, _], _ => rfl
theorem Txt.bis_ascending {K : PySem.W.Frag} {mg : Str → Option Value} (T : Txt K mg) : Binds K T.dis_ascending Pis_ascending [] := T.Fis_ascending.binds fun _ _ _ _ _ _ us hl => match us, hl with | [_, _, _], _ => rfl
theorem Txt.b_law_draws {K : PySem.W.Frag} {mg : Str → Option Value} (T : Txt K mg) : Binds K T.d_law_draws P_law_draws [] := T.F_law_draws.binds fun _ _ _ _ _ _ us hl => match us, hl with | [_, _], _ => rfl
theorem Txt.b_law_take {K : PySem.W.Frag} {mg : Str → Option Value} (T : Txt K mg) : Binds K T.d_law_take P_law_take [] := T.F_law_take.binds fun _ _ _ _ _ _ us hl => match us, hl with | [_, _], _ => rfl
theorem Txt.b_law_cell {K : PySem.W.Frag} {mg : Str → Option Value} (T : Txt K mg) : Binds K T.d_law_cell P_law_cell [] := T.F_law_cell.binds fun _ _ _ _ _ _ us hl => match us, hl with | [_, _], _ => rfl
theorem Txt.b_law_option {K : PySem.W.Frag} {mg : Str → Option Value} (T : Txt K mg) : Binds K T.d_law_option P_law_option [] := T.F_law_option.binds fun _ _ _ _ _ _ us hl => match us, hl with | [_, _, _, _], _ => rfl
theorem Txt.b_law_arena {K : PySem.W.Frag} {mg : Str → Option Value} (T : Txt K mg) : Binds K T.d_law_arena P_law_arena [] := T.F_law_arena.binds fun _ _ _ _ _ _ us hl => match us, hl with | [_, _], _ => rfl
theorem Txt.b_law_colours {K : PySem.W.Frag} {mg : Str → Option Value} (T : Txt K mg) : Binds K T.d_law_colours P_law_colours [] := T.F_law_colours.binds fun _ _ _ _ _ _ us hl => match us, hl with | [_, _], _ => rfl
theorem Txt.b_law_class {K : PySem.W.Frag} {mg : Str → Option Value} (T : Txt K mg) : Binds K T.d_law_class P_law_class [] := T.F_law_class.binds fun _ _ _ _ _ _ us hl => match us, hl with | [_], _ => rfl
theorem Txt.b_law_only {K : PySem.W.Frag} {mg : Str → Option Value} (T : Txt K mg) : Binds K T.d_law_only P_law_only [] := T.F_law_only.binds fun _ _ _ _ _ _ us hl => match us, hl with | [_], _ => rfl
theorem Txt.b_law_places {K : PySem.W.Frag} {mg : Str → Option Value} (T : Txt K mg) : Binds K T.d_law_places P_law_places [] := T.F_law_places.binds fun _ _ _ _ _ _ us hl => match us, hl with | [_, _], _ => rfl
theorem Txt.b_law_wrong_places {K : PySem.W.Frag} {mg : Str → Option Value} (T : Txt K mg) : Binds K T.d_law_wrong_places P_law_wrong_places [] := T.F_law_wrong_places.binds fun _ _ _ _ _ _ us hl => match us, hl with | [_, _, _, _], _ => rfl
theorem Txt.b_law_wrong_colours {K : PySem.W.Frag} {mg : Str → Option Value} (T : Txt K mg) : Binds K T.d_law_wrong_colours P_law_wrong_colours [] := T.F_law_wrong_colours.binds fun _ _ _ _ _ _ us hl => match us, hl with | [_, _], _ => rfl
theorem Txt.b_law_moved {K : PySem.W.Frag} {mg : Str → Option Value} (T : Txt K mg) : Binds K T.d_law_moved P_law_moved [] := T.F_law_moved.binds fun _ _ _ _ _ _ us hl => match us, hl with | [_, _], _ => rfl
theorem Txt.b_law_wrong_gains {K : PySem.W.Frag} {mg : Str → Option Value} (T : Txt K mg) : Binds K T.d_law_wrong_gains P_law_wrong_gains [] := T.F_law_wrong_gains.binds fun _ _ _ _ _ _ us hl => match us, hl with | [_, _], _ => rfl
theorem Txt.b_law_checked {K : PySem.W.Frag} {mg : Str → Option Value} (T : Txt K mg) : Binds K T.d_law_checked P_law_checked [] := T.F_law_checked.binds fun _ _ _ _ _ _ us hl => match us, hl with | [_, _], _ => rfl
theorem Txt.blaw {K : PySem.W.Frag} {mg : Str → Option Value} (T : Txt K mg) : Binds K T.dlaw Plaw [] := T.Flaw.binds fun _ _ _ _ _ _ us hl => match us, hl with | [_], _ => rfl
end NL

set_option maxHeartbeats 4000000
namespace NL
open PySem PySem.Spec PyProof.Rows L2 L2H HotX
/-! ### where an exception is handled: a range walked in a comprehension -/
structure TurnG (P : Program) (w : World) (K : PySem.W.Frag) (tg : Expr) (J : L2.It) (fp : List Addr) (it : Addr) (tn : Nat → Heap → Prop) : Prop where
  mem : it ∈ fp
  obj : ∀ i h, tn i h → ∀ b ∈ fp, ∃ o, h.get? b = some o ∧ ∀ v, o.data ≠ .cell v
  keep : ∀ i h h', tn i h → (∀ b ∈ fp, ∀ o, h.get? b = some o → h'.get? b = some o) → tn i h'
  item : ∀ (X : Cx), X.prog = P → X.w = w → X.K = K → ∀ (i : Nat) (pins : List (Addr × Obj)) (s : Shared) (σ : L2.St) (H : Hp) (E : Value → Shared → Prop), Inv X pins σ H s → (∀ b ∈ fp, FpOk X pins H b) → tn i s.heap → J.go i H →
    wpAny (model P w) X.A (pyNext (.ref it)) (fun r s1 => ∃ u, r = some u ∧
      wpAny (model P w) X.A (letOwnedTupleGo tg (.ref it) u) (fun _ s2 => ∃ x H', Inv X pins σ H' s2 ∧ RelV x u ∧ J.yld i H x H' ∧ tn (i + 1) s2.heap ∧ ∀ b ∈ fp, H' b = none) E s1) E s
  done : ∀ (X : Cx), X.prog = P → X.w = w → X.K = K → ∀ (i : Nat) (pins : List (Addr × Obj)) (s : Shared) (σ : L2.St) (H : Hp) (E : Value → Shared → Prop), (∃ x1, HotAt X.A x1 s.heap) → Inv X pins σ H s → (∀ b ∈ fp, FpOk X pins H b) → tn i s.heap → J.stop i H →
    wpAny (model P w) X.A (pyNext (.ref it)) (fun r s1 => r = none ∧ Inv X pins σ H s1) E s
  self : ∀ (A : Around) (i : Nat) (s : Shared) (Q : Value → Shared → Prop) (E : Value → Shared → Prop), tn i s.heap → Q (.ref it) s → wpAny (model P w) A (pyIter (.ref it)) Q E s
theorem turn_rangeG {P : Program} {w : World} {K : PySem.W.Frag} {tg : Expr} (it : Addr) (lo : Int) (n : Nat) : TurnG P w K tg (Itr lo n) [it] it (fun i h => IsRangeIter h it (lo + (i : Nat) * 1) ((n : Int) - (i : Nat)) 1) where
  mem := by simp
  obj := fun i h st b hb => by
    have e : b = it := by simpa using hb
    subst e
    exact ⟨_, st, fun v z => by
      have z' : Data.fields _ = Data.cell v := z
      cases z'⟩
  keep := fun i h h' st k => k it (by simp) _ st
  item := by
    intro X hP hw hK i pins s σ H E I hf st hg
    subst hP hw hK
    obtain ⟨f0, f1, f2, f3, f4, f5⟩ := hf it (by simp)
    have hlt : i < n := hg
    refine wpAny_pyNext_range_item st (by omega) fun h' st' sb => ?_
    have st2 : IsRangeIter h' it (lo + ((i + 1 : Nat) : Int) * 1) ((n : Int) - ((i + 1 : Nat) : Int)) 1 := by
      have e1 : lo + ((i : Nat) : Int) * 1 + 1 = lo + ((i + 1 : Nat) : Int) * 1 := by omega
      have e2 : (n : Int) - ((i : Nat) : Int) - 1 = (n : Int) - ((i + 1 : Nat) : Int) := by omega
      rw [← e1, ← e2]
      exact st'
    have I1 : Inv X pins σ H { s with heap := h', toks := s.toks + 1 } := I.turned (fun b o hb e => (sb.2 b hb).trans e) f0 f1 f3 f4 f5
    refine ⟨_, rfl, go_of (s := { s with heap := h', toks := s.toks + 1 }) (n := "range_iterator") st2 rfl rfl (by decide) ⟨.int (lo + i), H, I1, ⟨s.toks, ?_⟩, ⟨rfl, rfl⟩, st2, fun b hb => (hf b hb).1⟩⟩
    rw [Int.mul_one]
  done := by
    intro X hP hw hK i pins s σ H E hc I hf st hg
    subst hP hw hK
    obtain ⟨f0, f1, f2, f3, f4, f5⟩ := hf it (by simp)
    obtain ⟨x1, hot⟩ := hc
    exact pyNext_range_end_hot hot st (by have : n ≤ i := hg; omega) fun h' eb => ⟨rfl, I.turned (t' := s.toks) (fun b o _ e => eb b o e) f0 f1 f3 f4 f5⟩
  self := fun _ _ _ _ _ st h => wpAny_pyIter_rangeiter st h
def PIEG (X : Cx) (pins : List (Addr × Obj)) (σ : L2.St) (tg : Expr) (R : L2.It → Hp → Prop) (itv : Value) (s2 : Shared) : Prop :=
  ∃ (it : Addr) (fp : List Addr) (tn : Nat → Heap → Prop) (J : L2.It) (H' : Hp), itv = .ref it ∧ Inv X pins σ H' s2 ∧ TurnG X.prog X.w X.K tg J fp it tn ∧ tn 0 s2.heap ∧ (∀ b ∈ fp, FpOk X pins H' b) ∧ R J H'
structure PIG (X : Cx) (tg iter : Expr) (wi : TI) : Prop where
  run : ∀ (pins : List (Addr × Obj)) (s : Shared) (σ : L2.St) (H : Hp) (R : L2.It → Hp → Prop), Inv X pins σ H s → wi σ H R →
    wpAny (model X.prog X.w) X.A (eval iter X.env) (fun v s1 => wpAny (model X.prog X.w) X.A (pyIter v) (PIEG X pins σ tg R) X.xe s1) X.xe s
section
variable {X : Cx} {tg : Expr}
theorem range_itG {pins : List (Addr × Obj)} {σ : L2.St} {H : Hp} {s : Shared} {R : L2.It → Hp → Prop} {E : Value → Shared → Prop} {lo hi : Int} {t u v : Tok} {tk : Nat} (I : Inv X pins σ H s) (h1 : -(2 ^ 62) ≤ lo) (h2 : lo < 2 ^ 62) (h3 : -(2 ^ 62) ≤ hi) (h4 : hi < 2 ^ 62)
    (q : R (Itr lo (hi - lo).toNat) H) : wpAny (model X.prog X.w) X.A (pyIter (.ref s.heap.objs.size)) (PIEG X pins σ tg R) E { s with heap := s.heap.push { cls := .type "range", data := .fields #[.int lo t, .int hi u, .int 1 v] }, toks := tk } := by
  refine wpAny_pyIter_range (IsRange.new ..) (small_one h1 h2 h3 h4) ?_
  have I1 : Inv X pins σ H { s with heap := s.heap.push { cls := .type "range", data := .fields #[.int lo t, .int hi u, .int 1 v] }, toks := tk } := I.kept fun b o e => Heap.get?_push_of_some _ e
  refine ⟨(s.heap.push { cls := .type "range", data := .fields #[.int lo t, .int hi u, .int 1 v] }).objs.size, [(s.heap.push { cls := .type "range", data := .fields #[.int lo t, .int hi u, .int 1 v] }).objs.size], _, _, H, rfl,
    I1.kept (t' := tk) fun b o e => Heap.get?_push_of_some _ e, turn_rangeG _ lo (hi - lo).toNat, ?_, fun b hb => ?_, q⟩
  · have e1 : lo + ((0 : Nat) : Int) * 1 = lo := by simp
    have e2 : (((hi - lo).toNat : Nat) : Int) - ((0 : Nat) : Int) = Builtin.Range.rangeSize lo hi 1 := by rw [rangeSize_one]; split <;> omega
    show IsRangeIter _ _ (lo + ((0 : Nat) : Int) * 1) ((((hi - lo).toNat : Nat) : Int) - ((0 : Nat) : Int)) 1
    rw [e1, e2]
    exact Heap.get?_push_size _ rfl
  · have e : b = (s.heap.push { cls := .type "range", data := .fields #[.int lo t, .int hi u, .int 1 v] }).objs.size := by simpa using hb
    subst e
    exact I1.fpOk (Nat.le_refl _) (I1.hok.fresh (Nat.le_refl _))
theorem pi_range1G {a : Expr} {ta : TA} {p pos : Pos} (hg : Gl X "range") (hm : X.mg "range" = none) (ha : PA X [a] ta) (hs : starEach [a] X.env = [(false, eval a X.env)] := by rfl) : PIG X tg (.Call (.Name "range" p) [a] [] pos) (iRng1 ta) := by
  refine ⟨fun pins s σ H R I h => ?_⟩
  refine Call_ (ld_blt I hg hm boot_range (PyProof.Rows.callWith_type1 (thn (ha.run pos pins s σ H _ I h) fun us s1 ⟨vs, H1, I1, r1, q1⟩ => ?_) hs rfl))
  obtain ⟨j, e, q1, q2, q⟩ := q1
  subst e
  cases r1 with
  | cons r rr =>
    cases rr
    obtain ⟨t, rfl⟩ := r
    exact call_range_1 (range_itG I1 (by omega) (by omega) q1 q2 (by simpa using q))
end
section
variable {X : Cx}
theorem lc_coreG {pins : List (Addr × Obj)} {s : Shared} {σ : L2.St} {H : Hp} {Q : VK} {elt tg iter : Expr} {ifs : List Expr} {scope : Scope} {own : List (Str × Nat)} {pos pos' : Pos} {wi : TI} {g : TG} {tt : TT} {te : TE} {use : Option (Value → Sem Unit)} {Qf : Value → Shared → Prop}
    (hc : HotC X) (hN : X.N.Nodup) (I : Inv X pins σ H s) (hi : PIG X tg iter wi) (ok : BlkOk X.N X.env.scope scope own)
    (hg : ∀ (s : Shared) (H : Hp) (C : Addr) (cl : List (Str × Addr)) (fp : List Addr), PG (X.blk s H scope (compEnvC scope cl C X.env) fp) tg g) (ht : ∀ (s : Shared) (H : Hp) (C : Addr) (cl : List (Str × Addr)) (fp : List Addr), PTs (X.blk s H scope (compEnvC scope cl C X.env) fp) ifs tt)
    (he : ∀ (s : Shared) (H : Hp) (C : Addr) (cl : List (Str × Addr)) (fp : List Addr), PE (X.blk s H scope (compEnvC scope cl C X.env) fp) elt te) (hs : ∀ x, foldedSetIterable iter X.env x = pure x)
    (h : tLc wi g tt te (own.map (·.2)) σ H Q)
    (hRR : ∀ D C s' m H', Inv X pins σ H' s' → Q (.ref D) H' → s'.heap.Ns C m → FpOk X pins H' C → compPost (model X.prog X.w) X.A X.xe use Qf (.ref D) C (.ok .next) s') :
    wpAny (model X.prog X.w) X.A (comprehension (.ListComp elt [⟨tg, iter, ifs, 0⟩] scope pos) scope X.env pos' (newList []) false (eval iter X.env) use) Qf X.xe s := by
  have hfree : ∀ y ∈ scope.names, y.2 = .free → ∃ c, X.env.cells.lookup y.1 = some c := fun y hy e => by
    rcases ok.free y hy e with k | k
    · exact I.ok.has _ (.inl k)
    · exact I.ok.has _ (.inr k)
  refine wpAny_comprehension_free (use := use) rfl hs (closure_ok hfree) ok.kind (fun y hy e => by rw [ok.uniq y hy, e])
    (thn (hi.run pins s σ H _ I h) fun xv s1 hx => thn hx fun itv s2 h2 => ?_)
  obtain ⟨it, fp, tn, J, H2, e, I2, T, st2, f2, q⟩ := h2
  subst e
  refine wpAny_newObj_type (newEnv_comp ?_) (by show 0 ≤ sizeLine; decide)
  generalize hD : s2.heap.objs.size = D
  have hDn : H2 D = none := I2.hok.fresh (Nat.le_of_eq hD)
  obtain ⟨W, ⟨m0, w0⟩, turn⟩ := q D hDn
  -- the new list
  generalize hs3 : ({ s2 with heap := s2.heap.push { cls := .type "list", data := .seq ([] : List Value).toArray } } : Shared) = s3
  have I3 : Inv X pins σ (upd H2 D (.lst [])) s3 := by
    rw [← hs3]
    refine I2.laid (t' := s2.toks) (fun b o e => Heap.get?_push_of_some _ e) (Nat.le_of_eq hD) ⟨Nat.zero_le _, [], 0, .nil, ?_⟩
    rw [← hD]
    exact Heap.get?_push_size _ rfl
  have h3 : s3.heap = s2.heap.push { cls := .type "list", data := .seq ([] : List Value).toArray } := by rw [← hs3]
  have sz : ∀ b ∈ fp, b < s2.heap.objs.size := fun b hb => by
    obtain ⟨o, e, _⟩ := T.obj _ _ st2 b hb
    exact Heap.lt_size e
  have f3 : ∀ b ∈ fp, FpOk X pins (upd H2 D (.lst [])) b ∧ b < s3.heap.objs.size := fun b hb => by
    have hlt := sz b hb
    refine ⟨⟨?_, (f2 b hb).2⟩, by rw [h3, Heap.size_push]; exact Nat.lt_succ_of_lt hlt⟩
    rw [upd_ne (by rw [← hD]; exact Nat.ne_of_lt hlt)]
    exact (f2 b hb).1
  have st3 : tn 0 s3.heap := T.keep _ _ _ st2 fun b _ o e => by rw [h3]; exact Heap.get?_push_of_some _ e
  have I4 := block_start I3 ok hN f3
  have pg := hg s3 (upd H2 D (.lst [])) s3.heap.objs.size (cellsFrom (s3.heap.objs.size + 1) scope.names (cloFrom X.env.cells scope.names [])) fp
  have pt := ht s3 (upd H2 D (.lst [])) s3.heap.objs.size (cellsFrom (s3.heap.objs.size + 1) scope.names (cloFrom X.env.cells scope.names [])) fp
  have pe := he s3 (upd H2 D (.lst [])) s3.heap.objs.size (cellsFrom (s3.heap.objs.size + 1) scope.names (cloFrom X.env.cells scope.names [])) fp
  show codeAny _ _ (.compStart (.ListComp elt [⟨tg, iter, ifs, 0⟩] scope pos) 0 (.ref it) (.ref D) (compEnvC scope (cellsFrom (s3.heap.objs.size + 1) scope.names (cloFrom X.env.cells scope.names [])) s3.heap.objs.size X.env)) (compPost (model X.prog X.w) X.A X.xe use Qf (.ref D) s3.heap.objs.size) { s3 with heap := pushCells (s3.heap.push { cls := .type "dict", data := .dict #[] }) scope.names }
  have nfp : ∀ b ∈ fp, (upd H2 D (.lst [])) b = none := fun b hb => (f3 b hb).1.1
  generalize hce : compEnvC scope (cellsFrom (s3.heap.objs.size + 1) scope.names (cloFrom X.env.cells scope.names [])) s3.heap.objs.size X.env = ce at I4 pg pt pe ⊢
  have cL : ce.locals = s3.heap.objs.size := by subst hce; rfl
  generalize hH3 : upd H2 D (.lst []) = H3 at I3 I4 pg pt pe w0 nfp f3
  generalize hs4 : ({ s3 with heap := pushCells (s3.heap.push { cls := .type "dict", data := .dict #[] }) scope.names } : Shared) = s4 at I4 ⊢
  have st4 : tn 0 s4.heap := T.keep _ _ _ st3 fun b _ o e => by rw [← hs4]; exact pushCells_keeps _ _ _ _ (Heap.get?_push_of_some _ e)
  have stat : ∀ {σ' : L2.St} {H' : Hp} {s' : Shared}, Inv (X.blk s3 H3 scope ce fp) [] σ' H' s' → (∀ b ∈ fp, H' b = none) → ∀ b ∈ fp, FpOk (X.blk s3 H3 scope ce fp) [] H' b := fun {σ' H' s'} I' hn b hb =>
    ⟨hn b hb, (I'.ok.exf b hb).1, I'.ok.exfs b hb, .inl hb, fun x c e => (I'.ok.exf b hb).2 x c e, fun p hp => absurd (show p ∈ ([] : List (Addr × Obj)) ++ [] from hp) (by simp)⟩
  have loop : codeAny (model X.prog X.w) X.A (.compLoop (.ListComp elt [⟨tg, iter, ifs, 0⟩] scope pos) 0 (.ref it) (.ref D) ce) (compPost (model X.prog X.w) X.A X.xe use Qf (.ref D) s3.heap.objs.size) s4 := by
    refine compLoop_any (fun n s' => ∃ i H', Inv (X.blk s3 H3 scope ce fp) [] (wipe σ (own.map (·.2))) H' s' ∧ tn i s'.heap ∧ (∀ b ∈ fp, H' b = none) ∧ W i n H') ?_ m0 ⟨0, H3, I4, st4, nfp, w0⟩
    rintro n s5 ⟨i, H5, I5, st5, n5, w5⟩
    rcases turn i n H5 w5 with ⟨stop, qq⟩ | ⟨go, Nx, hNx, step⟩
    · have hot5 : ∃ x1, HotAt (X.blk s3 H3 scope ce fp).A x1 s5.heap := by
        obtain ⟨p, ⟨hh, v1, e1, c1⟩, hp⟩ := hc
        obtain ⟨g1, g2, g3, g4, g5⟩ := I3.pin p (List.mem_append_left _ hp)
        have nfpp : p.1 ∉ fp := fun z => ((f3 p.1 z).1.2.2.2.2.2 p (List.mem_append_left _ hp)) rfl
        obtain ⟨sl, e2⟩ := I5.base.any g1 g2 nfpp
        exact ⟨p.1, hh, _, v1, e2, e1, c1⟩
      have td := T.done (X.blk s3 H3 scope ce fp) rfl rfl rfl i [] s5 _ H5 (fun _ _ => False) hot5 I5 (stat I5 n5) st5 stop
      refine thnF td fun r s6 ⟨hr, I6⟩ => ?_
      subst hr
      -- back in the def's context
      have I7 : Inv X pins σ H5 s6 := I3.call' (ch := fp) I6.os I6.base I6.hok I6.bare fun b hb => ⟨(f3 b hb).1.2.2.2.1, (f3 b hb).1.2.1, (f3 b hb).1.2.2.2.2.1, (f3 b hb).1.2.2.2.2.2⟩
      have nC : H5 s3.heap.objs.size = none := by
        have z : H5 ce.locals = none := I6.free
        rw [cL] at z
        exact z
      obtain ⟨m, hn, _⟩ := I6.loc
      have hn : s6.heap.Ns ce.locals m := hn
      rw [cL] at hn
      exact hRR D s3.heap.objs.size s6 m H5 I7 qq hn (I3.fpOk (Nat.le_refl _) nC)
    · have ti := T.item (X.blk s3 H3 scope ce fp) rfl rfl rfl i [] s5 _ H5 (fun _ _ => False) I5 (stat I5 n5) st5 go
      refine thnF ti fun r s6 ⟨u, hr, h6⟩ => ?_
      subst hr
      refine thnF h6 fun _ s7 ⟨x, H7, I7, r7, y7, st7, n7⟩ => ?_
      have I7' := I7.pinned (stat I7 n7) (T.obj _ _ st7)
      refine thnF (pg.run _ s7 _ H7 x u _ I7' r7 (step x H7 y7)) fun _ s8 ⟨σ8, H8, I8, hw8, q8⟩ => ?_
      refine thnF (pt.run _ s8 σ8 H8 _ I8 q8) fun b s9 ⟨H9, I9, q9⟩ => ?_
      -- the turn's end
      have fin : ∀ {s' : Shared} {H' : Hp}, Inv (X.blk s3 H3 scope ce fp) ([] ++ pinsAt fp s7.heap) σ8 H' s' → Nx H' → ∃ m, m < n ∧ ∃ i H', Inv (X.blk s3 H3 scope ce fp) [] (wipe σ (own.map (·.2))) H' s' ∧ tn i s'.heap ∧ (∀ b ∈ fp, H' b = none) ∧ W i m H' := fun {s' H'} I' nx => by
        obtain ⟨m', hm, w'⟩ := hNx H' nx
        have pin' : ∀ b ∈ fp, ∀ o, s7.heap.get? b = some o → s'.heap.get? b = some o ∧ H' b = none := fun b hb o e =>
          let z := I'.pin (b, o) (List.mem_append_right _ (List.mem_append_right _ (mem_pinsAt hb e)))
          ⟨z.1, z.2.1⟩
        have hl : (wipe σ (own.map (·.2))).length = σ8.length := by rw [← hw8, wipe_length]
        refine ⟨m', hm, i + 1, H', (I'.unpinned (pins := [])).weak hl (fun j v e => ?_), T.keep _ _ _ st7 fun b hb o e => (pin' b hb o e).1, fun b hb => ?_, w'⟩
        · rw [← hw8] at e
          exact (wipe_some e).1
        · obtain ⟨o, e, _⟩ := T.obj _ _ st7 b hb
          exact (pin' b hb o e).2
      cases b with
      | false =>
        simp only [Bool.false_eq_true, if_false] at q9 ⊢
        exact fin I9 q9
      | true =>
        simp only [if_true] at q9 ⊢
        refine thnF (pe.run _ s9 σ8 H9 _ I9 q9) fun z s10 ⟨yv, H10, I10, r10, acc, hD10, hz10, nx⟩ => ?_
        exact app_ok (X := X.blk s3 H3 scope ce fp) I10 hD10 hz10 r10 fun s11 I11 => fin I11 nx
  exact codeAny_compStart_list loop (T.self X.A 0 _ _ _ st4 loop)
/-- name = [..] on one line, the name a local -/
theorem ps_setLcG {i : Nat} {y : Str} {py : Pos} {elt tg iter : Expr} {ifs : List Expr} {scope : Scope} {own : List (Str × Nat)} {pos spos : Pos} {wi : TI} {g : TG} {tt : TT} {te : TE} (hc : HotC X) (hN : X.N.Nodup) (hy : X.N[i]? = some y) (hyl : X.env.scope.names.lookup y = some .local)
    (hsw : swapsWith (.ListComp elt [⟨tg, iter, ifs, 0⟩] scope pos) (some (.Name y py)) spos.line X.env = pure true) (hi : PIG X tg iter wi) (ok : BlkOk X.N X.env.scope scope own)
    (hg : ∀ (s : Shared) (H : Hp) (C : Addr) (cl : List (Str × Addr)) (fp : List Addr), PG (X.blk s H scope (compEnvC scope cl C X.env) fp) tg g) (ht : ∀ (s : Shared) (H : Hp) (C : Addr) (cl : List (Str × Addr)) (fp : List Addr), PTs (X.blk s H scope (compEnvC scope cl C X.env) fp) ifs tt)
    (he : ∀ (s : Shared) (H : Hp) (C : Addr) (cl : List (Str × Addr)) (fp : List Addr), PE (X.blk s H scope (compEnvC scope cl C X.env) fp) elt te) (hs : ∀ x, foldedSetIterable iter X.env x = pure x := by intro _; rfl) :
    PS X (.Assign [.Name y py] (.ListComp elt [⟨tg, iter, ifs, 0⟩] scope pos) spos) (tAsg (tLc wi g tt te (own.map (·.2))) (gName i)) := by
  refine ⟨fun pins s σ H D I h => ?_⟩
  rw [exec_Assign_Name_used _ _ _ _ hsw]
  refine wpAny_bind (wpAny_standAt (wpAny_bind ?_))
  show wpAny _ X.A (do let _ ← comprehension (.ListComp elt [⟨tg, iter, ifs, 0⟩] scope pos) scope X.env (firstIterPos [⟨tg, iter, ifs, 0⟩] pos) (newList []) false (eval iter X.env) (some (assign (.Name y py) X.env))) _ _ s
  have h : tLc wi g tt te (own.map (·.2)) σ H (fun x H1 => gName i x σ H1 D.nx) := h
  refine wpAny_bind (thn (lc_coreG (Qf := fun _ s' => SP X pins D .next s') hc hN I hi ok hg ht he hs h fun L C s' m H' I' q hn f => ?_) fun _ s' hq => wpAny_pure (wpAny_pure hq))
  show wpAny _ _ (assign (.Name y py) X.env (.ref L)) _ _ _
  refine wpAny_assign_Name (store_ok2 (v := V.ref L) I' hN hy (.inl hyl) rfl (fun s2 I2 ⟨a, sb, ha⟩ => ?_) (.inr hyl))
  obtain ⟨f0, f1, f2, f3, f4, f5⟩ := f
  have haC : C ≠ a := by
    rcases ha with z | z
    · rw [z]; exact f1
    · exact fun e => f4 y a z e.symm
  refine ⟨m, hn.sameBut sb haC, fun h3 sb3 => ?_⟩
  exact ⟨_, H', I2.turned (t' := s2.toks) (fun b o hb e => (sb3.2 b hb).trans e) f0 f1 f3 f4 f5, q⟩
end
end NL

namespace NL
open PySem PySem.Spec PyProof.Rows L2 L2H HotX
/-! ### a def that is given the error that is handled -/
abbrev SpE := Addr → Value → Option Addr → Sp
structure FnE (P : Program) (w : World) (K : PySem.W.Frag) (mg : Str → Option Value) (base : Heap) (CX : CXT) (k : Nat) (f : Addr) (fd : FuncData) (ps : List Str) (sp : SpE) : Prop where
  len : ∀ a cls d vs H Q E, sp a cls d vs H Q E → vs.length = ps.length
  run : ∀ (A : Around) (outer : List Env) (s : Shared) (H : Hp) (args : Args) (us : List Value) (vs : List V) (Q : VK) (E : XK) (p : Addr × Obj) (cls : Value) (d : Option Addr), RoomH k A → Hot1 A p → Zc cls d p.2 → PinOk outer H s p → Env0 P w K mg base A outer s H → BindsTo s fd args (ps.zip us) → Vals vs us → sp p.1 cls d vs H Q E →
    codeAny (model P w) A (.call (.ref f) args) (CR CX outer P w H s Q E) s
theorem fn_ofE {CX : CXT} {P : Program} {w : World} {K : PySem.W.Frag} {mg : Str → Option Value} {base : Heap} {k : Nat} {f : Addr} {name qual : Str} {params : Arguments} {body : List Stmt} {scope : Scope} {dV kV doc pm cdv ct oc : Value} {an od : Option Addr}
    {osl : Array (Option Value)} {N ps : List Str} {sp : SpE} (lk : K.lookup f = some ⟨oc, od, .func (PySem.W.fnOf name qual params body scope dV kV doc pm an cdv ct), osl⟩) (hcd : PySem.W.codeIn K cdv qual = true) (S : FnScope N ps scope)
    (len : ∀ a cls d vs H Q E, sp a cls d vs H Q E → vs.length = ps.length)
    (hbody : ∀ (A : Around) (outer : List Env) (s : Shared) (H : Hp) (vs : List V) (Q : VK) (E : XK) (p : Addr × Obj) (cls : Value) (d : Option Addr), Hot1 A p → Zc cls d p.2 → RoomH k (A.deeper (envOfC qual scope s.heap.objs.size f cdv)) → sp p.1 cls d vs H Q E →
      ∃ t, PSs (cxH CX P w K mg base N qual scope f cdv A outer s H E p) body t ∧ t { nx := fun _ H' => Q .non H', rt := Q } (L2.start N vs) H) :
    FnE P w K mg base CX (k + 1) f (PySem.W.fnOf name qual params body scope dV kV doc pm an cdv ct) ps sp := by
  refine ⟨len, fun A outer s H args us vs Q E p cls d hr hot hz hpin e0 hb r hsp => ?_⟩
  have hl := len _ _ _ _ _ _ _ hsp
  have KX : K.In s.heap := e0.mod.kin.keeps fun b o e => (e0.bs b o e).1
  have lim : s.heap.NoLimit := e0.mod.nolimit.keeps fun b o e => (e0.bs b o e).1
  have hkind : ∀ y ∈ ps.zip us, scope.names.lookup y.1 = some .local ∨ (scope.names.lookup y.1 = some .cell ∧ ((cellsFrom (s.heap.objs.size + 1) scope.names []).lookup y.1).isSome = true) := fun ⟨n, v⟩ hy => by
    rcases S.par n (List.of_mem_zip hy).1 with q | q
    · exact .inl q
    · exact .inr ⟨q, PySem.W.cellsFrom_some _ _ _ (.inl q)⟩
  refine codeAny_call_function hr.depth (KX _ _ lk) rfl S.co S.gen rfl (PySem.W.codeRec_of KX hcd) (hb _ _ _ _ ?_)
  refine wpAny_newFunctionEnv_cells S.kind hkind fun env he s1 x => ?_
  subst he
  refine ⟨lim.keeps x.toInCall.keep, codeAny_func ?_⟩
  obtain ⟨t, ht, hq⟩ := hbody A outer s H vs Q E p cls d hot hz (hr.deeper _) hsp
  have I : Inv (cxH CX P w K mg base N qual scope f cdv A outer s H E p) [] (L2.start N vs) H s1 := inv_startH S hpin e0 hl r x
  refine wpAny_mono (ht.run [] s1 (L2.start N vs) H _ I hq) (fun fl s' hs => ?_) fun e s' hs => hs
  have fin : ∀ {σ' : L2.St} {H' : Hp} {v : V} {u : Value}, Inv (cxH CX P w K mg base N qual scope f cdv A outer s H E p) [] σ' H' s' → RelV v u → Q v H' → CE outer P w H s Q u s' :=
    fun {σ' H' v u} J rv q => ⟨v, H', J.os, J.bare, J.base, J.hok, rv, q⟩
  cases fl with
  | ret u =>
    obtain ⟨v, σ', H', J, rv, q⟩ := hs
    exact fin J rv q
  | next =>
    obtain ⟨σ', H', J, q⟩ := hs
    exact fin (v := V.non) (u := Value.none) J rfl q
  | brk =>
    obtain ⟨_, _, _, q⟩ := hs
    exact False.elim q
  | cont =>
    obtain ⟨_, _, _, q⟩ := hs
    exact False.elim q
section
variable {P : Program} {w : World} {K : PySem.W.Frag} {mg : Str → Option Value} {base : Heap}
theorem okE {x qual : Str} {st : Stmt} {f : Addr} {fd : FuncData} {N ps : List Str} {k : Nat} {sp : SpE} (F : L2.Fun K x qual st f fd) (S : FnScope N ps (defScope st)) (len : ∀ a cls d vs H Q E, sp a cls d vs H Q E → vs.length = ps.length)
    (hbody : ∀ (cdv : Value) (A : Around) (outer : List Env) (s : Shared) (H : Hp) (vs : List V) (Q : VK) (E : XK) (p : Addr × Obj) (cls : Value) (d : Option Addr), Hot1 A p → Zc cls d p.2 → RoomH k (A.deeper (envOfC qual (defScope st) s.heap.objs.size f cdv)) → sp p.1 cls d vs H Q E →
      ∃ t, PSs (cxH CX0 P w K mg base N qual (defScope st) f cdv A outer s H E p) (defBody st) t ∧ t { nx := fun _ H' => Q .non H', rt := Q } (L2.start N vs) H) : FnE P w K mg base CX0 (k + 1) f fd ps sp := by
  obtain ⟨oc, od, kV, doc, pm, an, cdv, ct, osl, rfl, lk, hcd⟩ := F.ex
  exact fn_ofE lk hcd S len fun A outer s H vs Q E p cls d hot hz hr hsp => hbody cdv A outer s H vs Q E p cls d hot hz hr hsp
/-- a def that may raise: the errors bear that nothing was handled where they were made -/
theorem okN {x qual : Str} {st : Stmt} {f : Addr} {fd : FuncData} {N ps : List Str} {k : Nat} {sp : Sp} (F : L2.Fun K x qual st f fd) (S : FnScope N ps (defScope st)) (len : ∀ vs H Q E, sp vs H Q E → vs.length = ps.length)
    (hbody : ∀ (cdv : Value) (A : Around) (outer : List Env) (s : Shared) (H : Hp) (vs : List V) (Q : VK) (E : XK), Room k (A.deeper (envOfC qual (defScope st) s.heap.objs.size f cdv)) → sp vs H Q E →
      ∃ t, PSs (cxOf (L2N.CX P w) P w K mg base N qual (defScope st) f cdv A outer s H E) (defBody st) t ∧ t { nx := fun _ H' => Q .non H', rt := Q } (start N vs) H) : FnOk P w K mg base (L2N.CX P w) (k + 1) f fd ps sp := by
  obtain ⟨oc, od, kV, doc, pm, an, cdv, ct, osl, rfl, lk, hcd⟩ := F.ex
  exact fn_of lk hcd S len fun A outer s H vs Q E hr hsp => hbody cdv A outer s H vs Q E hr hsp
end
theorem zn_hot {X : Cx} {a : Addr} {oe : Obj} {cls : Value} {d : Option Addr} {pn : List (Addr × Obj)} (hz : L2N.Zn cls d oe) (hf : ∃ vs, oe.data = .fields vs) : Hot1 (X.suite a ((a, oe) :: pn)).A (a, oe) := by
  obtain ⟨vs, hv⟩ := hf
  exact ⟨rfl, vs, hv, hz.2.2 vs hv⟩
section
variable {X : Cx} {CX : CXT} {k : Nat} {f : Addr} {fd : FuncData} {ps : List Str} {sp : SpE} {E : L2.St → XK} {x : Str} {q pos : Pos} {e : Expr} {es : List Expr} {t : TA}
theorem pe_callE {p : Addr × Obj} {cls : Value} {d : Option Addr} (F : FnE X.prog X.w X.K X.mg X.base CX k f fd ps sp) (hr : RoomH k X.A) (hot : Hot1 X.A p) (hp : p ∈ X.pn) (hz : Zc cls d p.2) (hg : Gl X x) (hm : X.mg x = some (.ref f)) (hk : PySem.W.keepIn X.K (.ref f) = true) (hb : Binds X.K fd ps []) (hx : ∀ σ, PassesAt CX X σ (E σ))
    (ha : PA X (e :: es) t) (hdb : (x == ("__debug__" : Str)) = false := by decide) (he : starEach (e :: es) X.env = (false, eval e X.env) :: starEach es X.env := by rfl) (hpl : (backTo pos (starEach es X.env)).any (·.1) = false := by rfl) :
    PE X (.Call (.Name x q) (e :: es) [] pos) (tCallS (sp p.1 cls d) E t) := by
  refine ⟨fun pins s σ H Q I h => ?_⟩
  refine wpAny_Call_Name_kw (ld_glob I hg hm ?_ hdb)
  refine PySem.W.callWith_K (h₀ := X.base) I.ok.mod.kin hk (thn (ha.run pos pins s σ H _ I h) fun us s1 ⟨vs, H1, I1, r, q⟩ => ⟨I1.kIn, ?_⟩) he hpl
  have hl : us.length = ps.length := by rw [← r.length]; exact F.len _ _ _ _ _ _ _ q
  have b := hb s1 us I1.kIn (by rw [List.append_nil]; exact hl)
  rw [List.append_nil] at b
  have P1 := I1.pin p (List.mem_append_left _ hp)
  have hpin : PinOk X.stack H1 s1 p := ⟨P1.1, P1.2.1, fun hm => (List.mem_cons.mp (I1.stkSub p.1 hm)).elim P1.2.2.1 P1.2.2.2.1, P1.2.2.2.2⟩
  refine wpAny_call (codeAny_mono (F.run X.A X.stack s1 H1 ⟨us, []⟩ us vs Q (E σ) p cls d hr hot hz hpin I1.env0 b r q) fun r s' hq => ?_)
  cases r with
  | error e => exact hx σ pins H1 s1 e s' I1 hq
  | ok fl =>
    cases fl with
    | ret u => exact I1.after hq
    | next => exact False.elim hq
    | brk => exact False.elim hq
    | cont => exact False.elim hq
end
/-- isinstance of the error that is handled -/
theorem call_isP {X : Cx} {D : Addr} {p : Addr × Obj} (C : ExcC X.K D) (hp : p ∈ X.pn) (hz : Zc (.ref D) none p.2) (hf : ∃ vs, p.2.data = .fields vs) : CallR X (.builtin "isinstance") (rIsE X.K D p.1) := by
  intro pins s σ H xs us Q I r h
  obtain ⟨c, cv, b, rfl, hcv, e, q⟩ := h
  cases r with
  | cons rx rr =>
    cases rr with
    | cons rt rr =>
      cases rr
      cases rx
      have ec := hcv _ rt
      subst ec
      obtain ⟨hget, _⟩ := I.pin p (List.mem_append_left _ hp)
      obtain ⟨vs, hv⟩ := hf
      have J : PySem.W.InstAt s.heap p.1 p.2 D none := by
        obtain ⟨a, oc, od, oda, osl⟩ := p
        obtain ⟨h1, h2⟩ := hz
        dsimp only at h1 h2 hv
        subst h1 h2 hv
        exact ⟨hget, rfl, rfl, trivial⟩
      exact PySem.W.kia_one (PySem.W.handS_kitx_exc C.hg C.hk C.hs C.hd C.ha C.hn C.ht C.hm) I.kIn J e (fun z => nomatch z) fun tk => ⟨.bl b, H, I.kept (t' := tk) fun _ _ z => z, rfl, q⟩
end NL

namespace NL
open PySem PySem.Spec PyProof.Rows L2 L2H HotX
theorem kit_ref {K : PySem.W.Frag} {D C : Addr} {b : Bool} (hne : b = false → D ≠ C) (i : PySem.W.isClsIn K C = true) (t : PySem.W.typeIn K (.ref C) = some (.type "type")) (s : PySem.W.subIn K (.ref D) (.ref C) = some b) : PySem.W.kitOne K (.ref D) (.ref C) = some b := by
  unfold PySem.W.kitOne
  by_cases e : D = C
  · subst e
    rw [if_pos (by simp)]
    cases b with
    | true => rfl
    | false => exact absurd rfl (hne rfl)
  · rw [if_neg (by simpa using e)]
    show (if ((PySem.W.clsIn K C).isSome && PySem.W.typeIn K (.ref C) == some (.type "type")) = true then PySem.W.subIn K (.ref D) (.ref C) else none) = some b
    have i' : (PySem.W.clsIn K C).isSome = true := i
    rw [i', t, if_pos (by rfl), s]
theorem exm_ref' {K : PySem.W.Frag} {cls : Value} {C : Addr} {b : Bool} (h1 : PySem.W.subIn K (.ref C) (.type "BaseException") = some true) (i : PySem.W.isClsIn K C = true) (t : PySem.W.typeIn K (.ref C) = some (.type "type")) (s : PySem.W.subIn K cls (.ref C) = some b) : PySem.W.exmOne K cls (.ref C) = some b := by
  unfold PySem.W.exmOne
  rw [h1, if_pos (by rfl)]
  show (if ((PySem.W.clsIn K C).isSome && PySem.W.typeIn K (.ref C) == some (.type "type")) = true then PySem.W.subIn K cls (.ref C) else none) = some b
  have i' : (PySem.W.clsIn K C).isSome = true := i
  rw [i', t, if_pos (by rfl), s]
theorem kit_val {K : PySem.W.Frag} {D : Addr} (s : PySem.W.subIn K (.ref D) (.type "ValueError") = some true) : PySem.W.kitOne K (.ref D) (.type "ValueError") = some true := by
  unfold PySem.W.kitOne
  rw [if_neg (by simp)]
  show (if PySem.W.kitMeta "ValueError" = true then PySem.W.subIn K (.ref D) (.type "ValueError") else none) = some true
  rw [if_pos (by decide +kernel), s]
theorem self_ne {K : PySem.W.Frag} {D C : Addr} (a : PySem.W.subIn K (.ref D) (.ref D) = some true) (b : PySem.W.subIn K (.ref D) (.ref C) = some false) : D ≠ C := fun e => by
  subst e; rw [a] at b; cases b
theorem takesN0 {X : Cx} : L2N.Takes X (fun _ _ _ _ => False) := fun _ _ x => by
  obtain ⟨_, _, _, _, _, _, _, _, _, _, _, _, _, _, _, _, z⟩ := x
  exact z.elim
theorem passE0 {X : Cx} {E : L2.St → XK} : ∀ σ, PassesAt CX0 X σ (E σ) := fun _ _ _ _ _ _ _ h => h.elim
theorem roomH_mark {j k : Nat} {A : Around} {v : Option Value} (r : Room k A) (h : j ≤ k) : RoomH j (A.mark v) := by
  have q : RoomH j A := (roomH_of r).mono h
  exact ⟨q.dp, q.un⟩
theorem zn_hot2 {A : Around} {a : Addr} {oe : Obj} {cls : Value} {d : Option Addr} (hz : L2N.Zn cls d oe) (hf : ∃ vs, oe.data = .fields vs) (h : A.handled = some (.ref a)) : L2H.Hot1 A (a, oe) := by
  obtain ⟨vs, hv⟩ := hf
  exact ⟨h, vs, hv, hz.2.2 vs hv⟩
section
variable {X : Cx} {CX : CXT} {k : Nat} {f : Addr} {fd : FuncData} {ps : List Str} {sp : SpE} {E : L2.St → XK} {x : Str} {q pos : Pos} {e : Expr} {es : List Expr} {t : TA}
theorem pe_callE2 {a : Addr} {oe : Obj} {cls : Value} {d : Option Addr} (F : FnE X.prog X.w X.K X.mg X.base CX k f fd ps sp) (hr : L2H.RoomH k X.A) (hot : L2H.Hot1 X.A (a, oe)) (hp : (a, oe) ∈ X.pn) (hz : Zc cls d oe) (hg : Gl X x) (hm : X.mg x = some (.ref f)) (hk : PySem.W.keepIn X.K (.ref f) = true) (hb : Binds X.K fd ps []) (hx : ∀ σ, PassesAt CX X σ (E σ))
    (ha : PA X (e :: es) t) (hdb : (x == ("__debug__" : Str)) = false := by decide) (he : starEach (e :: es) X.env = (false, eval e X.env) :: starEach es X.env := by rfl) (hpl : (backTo pos (starEach es X.env)).any (·.1) = false := by rfl) :
    PE X (.Call (.Name x q) (e :: es) [] pos) (tCallS (sp a cls d) E t) := pe_callE (p := (a, oe)) F hr hot hp hz hg hm hk hb hx ha hdb he hpl
end
/-- isinstance of the error that is handled, in the suite itself -/
theorem call_isQ {X : Cx} {K : PySem.W.Frag} {D a : Addr} {oe : Obj} {cls : Value} {d : Option Addr} (hK : X.K = K) (C : ExcC K D) (hp : (a, oe) ∈ X.pn) (hz : L2N.Zn cls d oe) (hf : ∃ vs, oe.data = .fields vs) : CallR X (.builtin "isinstance") (fun xs H Q => cls = .ref D ∧ d = none ∧ rIsE K D a xs H Q) := by
  subst hK
  intro pins s σ H xs us Q I r h
  obtain ⟨rfl, rfl, h⟩ := h
  exact call_isP C hp hz.zc hf pins s σ H xs us Q I r h
end NL

namespace NL
open PySem PySem.Spec PyProof.Rows L2

/-! ### frames: what stays while the list of draws at d is used up -/
structure Go (d : Addr) (H H' : Hp) : Prop where
  fr : ∀ b o, b ≠ d → H b = some o → H' b = some o
  dr : ∃ ns : List Int, H' d = some (.lst (ns.map V.int))
abbrev Dr (H : Hp) (d : Addr) : Prop := ∃ ns : List Int, H d = some (.lst (ns.map V.int))
theorem Go.refl {d : Addr} {H : Hp} (h : Dr H d) : Go d H H := ⟨fun _ _ _ e => e, h⟩
theorem Go.trans {d : Addr} {H H1 H2 : Hp} (a : Go d H H1) (b : Go d H1 H2) : Go d H H2 := ⟨fun c o n e => b.fr c o n (a.fr c o n e), b.dr⟩
theorem Go.new {d p : Addr} {H : Hp} {o : HO} (h : Dr H d) (hp : H p = none) : Go d H (upd H p o) := by
  obtain ⟨ns, e⟩ := h
  have n : d ≠ p := ne_of_none e hp
  exact ⟨fun b u _ q => by rw [upd_ne (ne_of_none q hp)]; exact q, ⟨ns, by rw [upd_ne n]; exact e⟩⟩
theorem Go.put {d : Addr} {H : Hp} (ns : List Int) : Go d H (upd H d (.lst (ns.map V.int))) := ⟨fun b u n q => by rw [upd_ne n]; exact q, ⟨ns, upd_same⟩⟩
theorem Go.same {d : Addr} {H H' : Hp} (h : Dr H d) (s : Same H H') : Go d H H' := ⟨fun b o _ e => s b o e, by obtain ⟨ns, e⟩ := h; exact ⟨ns, s _ _ e⟩⟩
theorem Go.tup {d a : Addr} {H H' : Hp} {xs : List V} (g : Go d H H') (h : Dr H d) (e : H a = some (.tup xs)) : H' a = some (.tup xs) := by
  refine g.fr a _ ?_ e
  rintro rfl
  obtain ⟨ns, q⟩ := h
  rw [e] at q; cases q
theorem same_new {H : Hp} {p : Addr} (h : H p = none) (o : HO) : Same H (upd H p o) := fun b u q => by rw [upd_ne (ne_of_none q h)]; exact q
/-- all tuples stay -/
def Tp (H H' : Hp) : Prop := ∀ a xs, H a = some (.tup xs) → H' a = some (.tup xs)
theorem Go.tp {d : Addr} {H H' : Hp} (g : Go d H H') (h : Dr H d) : Tp H H' := fun _ _ e => g.tup h e
theorem Tp.same {H H' : Hp} (s : Same H H') : Tp H H' := fun _ _ e => s _ _ e
theorem Tp.trans {H H1 H2 : Hp} (a : Tp H H1) (b : Tp H1 H2) : Tp H H2 := fun x y e => b x y (a x y e)
theorem Tp.refl {H : Hp} : Tp H H := fun _ _ e => e
/-- a list that stays readable whatever is drawn at d -/
def Keep (K : PySem.W.Frag) (d : Addr) (H : Hp) (a : Addr) (xs : List V) : Prop := ∀ H', (∀ b o, b ≠ d → H b = some o → H' b = some o) → SqL K H' a xs
theorem Keep.now {K : PySem.W.Frag} {d a : Addr} {H : Hp} {xs : List V} (k : Keep K d H a xs) : SqL K H a xs := k H fun _ _ _ e => e
theorem Keep.go {K : PySem.W.Frag} {d a : Addr} {H H' : Hp} {xs : List V} (k : Keep K d H a xs) (g : Go d H H') : Keep K d H' a xs := fun H2 f => k H2 fun b o n e => f b o n (g.fr b o n e)
theorem Keep.of {K : PySem.W.Frag} {d a : Addr} {H : Hp} {xs : List V} (n : a ≠ d) (h : H a = some (.lst xs)) : Keep K d H a xs := fun H' f => .inl (.inl (f a _ n h))
/-- what was read ahead of the draws' list stays -/
theorem Keep.old {K : PySem.W.Frag} {d a : Addr} {H0 H : Hp} {xs : List V} (h : SqL K H0 a xs) (hd : H0 d = none) (f : ∀ b o, H0 b = some o → H b = some o) : Keep K d H a xs := fun H' g => by
  rcases h with (h | ⟨o, h⟩) | h
  · exact .inl (.inl (g a _ (ne_of_none h hd) (f _ _ h)))
  · exact .inl (.inr ⟨o, g a _ (ne_of_none h hd) (f _ _ h)⟩)
  · exact .inr h

/-! ### rules whose written part is named (in a comprehension) -/
theorem ix_tupK {X : Cx} {K : PySem.W.Frag} (h : X.K = K) : IxR X (rIxT K) := by subst h; exact ix_tup
theorem ix_listK {X : Cx} {K : PySem.W.Frag} (h : X.K = K) : IxR X (rIxL K) := by subst h; exact ix_list
def rTupOf (K : PySem.W.Frag) : List V → Hp → VK → Prop := fun xs H Q => ∃ p ys, xs = [.ref p] ∧ ((SqL K H p ys ∧ ∀ l, H l = none → Q (.ref l) (upd H l (.tup ys))) ∨ (SqT K H p ys ∧ Q (.ref p) H))
theorem call_tuple_ofK {X : Cx} {K : PySem.W.Frag} (h : X.K = K) : CallR X (.type "tuple") (rTupOf K) := by subst h; exact call_tuple_of
/-! ### texts and words -/
/-- signs a to z alone -/
def Wd (z : Str) : Prop := ∀ c ∈ z.cps.toList, 97 ≤ c ∧ c ≤ 122
instance (z : Str) : Decidable (Wd z) := by unfold Wd; infer_instance
def res : List Str := ["true", "false", "add", "sub", "mul", "div", "mod", "min", "max", "abs", "if", "less", "equal", "not", "all", "any"]
theorem app_list (a b : Str) : (a ++ b).cps.toList = a.cps.toList ++ b.cps.toList := by
  show (a.cps ++ b.cps).toList = _
  simp
theorem len_list (a : Str) : a.length = a.cps.toList.length := by
  show a.cps.size = _
  simp
theorem len_app (a b : Str) : (a ++ b).length = a.length + b.length := by
  rw [len_list, app_list, List.length_append, ← len_list, ← len_list]
theorem str_ext {a b : Str} (h : a.cps.toList = b.cps.toList) : a = b := by
  cases a with | mk x => cases b with | mk y =>
  have : x = y := Array.toList_inj.mp h
  rw [this]
theorem Wd.app {a b : Str} (ha : Wd a) (hb : Wd b) : Wd (a ++ b) := fun c hc => by
  rw [app_list] at hc
  rcases List.mem_append.mp hc with h | h
  · exact ha c h
  · exact hb c h
structure Nam (z : Str) : Prop where
  wd : Wd z
  len : 0 < z.length ∧ z.length ≤ 200
  nr : z ∉ res
structure Nm (z : Str) : Prop where
  wd : Wd z
  len : 0 < z.length ∧ z.length ≤ 150

/-! ### lists at an index -/
theorem atI_mem {α : Type} {xs : List α} {i : Int} (h0 : 0 ≤ i) (h1 : i < xs.length) : ∃ v, atI xs i = some v ∧ v ∈ xs := by
  have hk : i.toNat < xs.length := by omega
  have ek : i = ((i.toNat : Nat) : Int) := by omega
  have q : atI xs ((i.toNat : Nat) : Int) = some xs[i.toNat] := atI_nat (List.getElem?_eq_getElem hk)
  rw [← ek] at q
  exact ⟨_, q, List.getElem_mem hk⟩
theorem atI_map {α β : Type} {f : α → β} {xs : List α} {i : Int} (h0 : 0 ≤ i) (h1 : i < xs.length) : ∃ v, atI (xs.map f) i = some (f v) ∧ v ∈ xs := by
  obtain ⟨v, h, m⟩ := atI_mem (xs := xs.map f) h0 (by rw [List.length_map]; exact h1)
  obtain ⟨u, hu, rfl⟩ := List.mem_map.mp m
  exact ⟨u, h, hu⟩
theorem sqd {K : PySem.W.Frag} {H : Hp} {a : Addr} {xs : List V} (h : H a = some (.lst xs)) : SqL K H a xs := .inl (.inl h)
theorem sqt {K : PySem.W.Frag} {H : Hp} {a : Addr} {xs : List V} (h : H a = some (.tup xs)) : SqT K H a xs := .inl (.inl h)
theorem int_eq {i j : Int} (h : decide (V.int i = V.int j) = true) : i = j := V.int.inj (of_decide_eq_true h)
theorem int_ne {i j : Int} (h : ¬ decide (V.int i = V.int j) = true) : i ≠ j := fun e => h (decide_eq_true (by rw [e]))
section
variable {P : Program} {w : World} {K : PySem.W.Frag} {mg : Str → Option Value} {base : Heap}
/-! ### _law_take -/
def spTake : Sp := fun vs H Q _ => ∃ (d : Addr) (m : Int), vs = [.ref d, .int m] ∧ Dr H d ∧ 0 < m ∧ ∀ r H', Go d H H' → 0 ≤ r → r < m → Q (.int r) H'
theorem ok_law_take (T : Txt K mg) : FnOk P w K mg base CX0 1 T.a_law_take T.d_law_take P_law_take spTake := by
  refine T.F_law_take.ok sc_law_take (fun vs H Q E h => ?_) (fun cdv A outer s H vs Q E hr h => ?_)
  · obtain ⟨d, m, rfl, _⟩ := h
    rfl
  obtain ⟨d, m, rfl, hD, hm, q⟩ := h
  refine ⟨_, (pss_cons (ps_if (pt_cmpR op_eq (pe_callB call_len_seq (by rfl) T.z_len PySem.boot_len (pa_cons (pv 0) pa_nil)) pe_int (nomark _))
    (pss_one (ps_ret pe_int))
    pss_nil)
    (pss_one (ps_ret (pe_op op_mod (pe_callTy call_int1 (by rfl) T.z_int (by decide +kernel) (pa_cons (pe_bm0 PySem.F.plainAttrs_list PySem.F.slot_list_pop PySem.F.type_list_pop mt_pop (pv 0)) pa_nil)) (pv 1))))), ?_⟩
  obtain ⟨ns, hd⟩ := hD
  refine ⟨_, rfl, _, _, rfl, .inl (sqd hd), rfl, _, rfl, ?_⟩
  refine ite2 (fun c => ?_) (fun c => ?_)
  · exact q 0 H (Go.refl ⟨ns, hd⟩) (Int.le_refl 0) hm
  · have hn := int_ne c
    rw [List.length_map] at hn
    have hz : ns ≠ [] := by
      rintro rfl
      exact hn rfl
    have hl : 0 < ns.length := List.length_pos_iff.mpr hz
    have he : (ns.map V.int)[(ns.map V.int).length - 1]? = some (.int ns[ns.length - 1]) := by
      rw [List.length_map, List.getElem?_map, List.getElem?_eq_getElem (by omega)]
      rfl
    refine ⟨_, rfl, .inl ⟨rfl, _, sqd hd⟩, _, _, _, rfl, rfl, hd, he, .inl ⟨_, rfl, ?_⟩⟩
    refine ⟨_, rfl, _, _, rfl, rfl, hm, ?_⟩
    refine q _ _ ?_ (Int.emod_nonneg _ (by omega)) (Int.emod_lt_of_pos _ hm)
    rw [← List.map_dropLast]
    exact Go.put _
end
end NL

namespace NL
open PySem PySem.Spec PyProof.Rows L2
/-! ### a text times a number -/
theorem op_mulS {X : Cx} : OpR X (binaryOp .Mult) (fun x y H Q => ∃ (z : Str) (k : Int), x = .str z ∧ y = .int k ∧ z.length ≤ 16 ∧ 0 ≤ k ∧ k ≤ 1000 ∧ ((Txt.mul z k).length = z.length * k.toNat → Q (.str (Txt.mul z k)) H)) := by
  intro pins s σ H x y v u Q I rx ry h
  obtain ⟨z, k, rfl, rfl, hz, h0, h1, q⟩ := h
  obtain ⟨t, rfl⟩ := rx
  obtain ⟨t', rfl⟩ := ry
  refine PySem.W.KXi.mul rfl hz (by omega) (by omega) fun t' tk _ hl => ⟨.str (Txt.mul z k), H, I.tok _, ⟨_, rfl⟩, q ?_⟩
  have e := hl h0
  have e2 : k = ((k.toNat : Nat) : Int) := by omega
  rw [e2] at e
  have : ((z.length : Int) * ((k.toNat : Nat) : Int)) = ((z.length * k.toNat : Nat) : Int) := by push_cast; rfl
  rw [this] at e
  have e3 := Int.ofNat.inj e
  rw [← e2] at e3
  exact e3
def abc : Str := "abcdefghijklmnopqrstuvwxyz"
theorem abc_at {i : Int} (h0 : 0 ≤ i) (h1 : i < 26) : ∃ c, atI abc.cps.toList i = some c ∧ 97 ≤ c ∧ c ≤ 122 := by
  have hl : abc.cps.toList.length = 26 := by decide +kernel
  obtain ⟨c, h, m⟩ := atI_mem (xs := abc.cps.toList) h0 (by rw [hl]; exact h1)
  have hall : ∀ c ∈ abc.cps.toList, 97 ≤ c ∧ c ≤ 122 := by decide +kernel
  exact ⟨c, h, hall c m⟩
section
variable {P : Program} {w : World} {K : PySem.W.Frag} {mg : Str → Option Value} {base : Heap}
/-! ### _law_cell -/
def spCell (K : PySem.W.Frag) : Sp := fun vs H Q _ => ∃ (a d : Addr) (ns : List Int), vs = [.ref a, .ref d] ∧ Keep K d H a (ns.map V.int) ∧ Dr H d ∧ ∀ r H', Go d H H' → (r = 0 ∨ r ∈ ns) → Q (.int r) H'
theorem ok_law_cell (T : Txt K mg) : FnOk P w K mg base CX0 2 T.a_law_cell T.d_law_cell P_law_cell (spCell K) := by
  have G_law_take := ok_law_take (P := P) (w := w) (base := base) T
  refine T.F_law_cell.ok sc_law_cell (fun vs H Q E h => ?_) (fun cdv A outer s H vs Q E hr h => ?_)
  · obtain ⟨a, d, ns, rfl, _⟩ := h
    rfl
  obtain ⟨a, d, ns, rfl, hk, hD, q⟩ := h
  refine ⟨_, (pss_cons (ps_if (pt_cmpR op_eq (pe_callB call_len_seq (by rfl) T.z_len PySem.boot_len (pa_cons (pv 0) pa_nil)) pe_int (nomark _))
    (pss_one (ps_ret pe_int))
    pss_nil)
    (pss_one (ps_ret (pe_callTy call_int1 (by rfl) T.z_int (by decide +kernel) (pa_cons (pe_ix ix_list (pv 0) (pe_call G_law_take (hr.mono (by omega)) (by rfl) T.m_law_take T.F_law_take.kp T.b_law_take .nil pass0 (pa_cons (pv 1) (pa_cons (pe_callB call_len_seq (by rfl) T.z_len PySem.boot_len (pa_cons (pv 0) pa_nil)) pa_nil))) (fun _ _ => rfl)) pa_nil))))), ?_⟩
  refine ⟨_, rfl, _, _, rfl, .inl hk.now, rfl, _, rfl, ?_⟩
  refine ite2 (fun c => ?_) (fun c => ?_)
  · exact q 0 H (Go.refl hD) (.inl rfl)
  · have hn := int_ne c
    rw [List.length_map] at hn
    refine ⟨_, rfl, _, rfl, _, rfl, _, _, rfl, .inl hk.now, d, _, rfl, hD, by rw [List.length_map]; omega, fun r H1 g h0 h1 => ?_⟩
    rw [List.length_map] at h1
    obtain ⟨v, hv, hm⟩ := atI_map (f := V.int) h0 h1
    exact ⟨_, _, _, _, rfl, rfl, (hk.go g).now, hv, .inl ⟨_, rfl, q v H1 g (.inr hm)⟩⟩
/-! ### _law_word -/
def spWord : Sp := fun vs H Q _ => ∃ i : Int, vs = [.int i] ∧ ∀ z : Str, Wd z → z.length ≤ 60 → (1 ≤ i → 0 < z.length) → Q (.str z) H
end
end NL

namespace NL
open PySem PySem.Spec PyProof.Rows L2
theorem yes_if {σ : L2.St} {H : Hp} {a n : Hp → Prop} (h : a H) : tYes σ H (fun b H3 => if b = true then a H3 else n H3) := by
  show (if true = true then a H else n H)
  rw [if_pos rfl]
  exact h
/-- one reading for two ways -/
theorem cutP {B C : Prop} (f : B → C) (b : B) : C := f b
theorem ifT {c : Bool} {A B : Prop} (h : c = true) (a : A) : if c = true then A else B := by
  rw [if_pos h]; exact a
theorem ifF {c : Bool} {A B : Prop} (h : c = false) (b : B) : if c = true then A else B := by
  rw [if_neg (by rw [h]; exact Bool.false_ne_true)]; exact b
theorem atI0 {α : Type} {x : α} {r : List α} : atI (x :: r) 0 = some x := atI_nat (j := 0) rfl
theorem atI1 {α : Type} {x y : α} {r : List α} : atI (x :: y :: r) 1 = some y := atI_nat (j := 1) rfl
theorem boolE {Q : VK} {b b' : Bool} {H : Hp} (h : b = b') (q : Q (.bl b') H) : Q (.bl b) H := by rw [h]; exact q
theorem big {n : Nat} (h : n ≤ 1000000) : n ≤ sizeLine := Nat.le_trans h (by decide)
theorem big' {n : Nat} (h : n ≤ 1000000) : n < sizeLine := Nat.lt_of_le_of_lt h (by decide)
theorem int_in {x : Int} {l : List Int} : inV (.int x) (l.map V.int) = decide (x ∈ l) := by
  unfold inV
  rw [List.any_map]
  induction l with
  | nil => rfl
  | cons a r ih =>
    rw [List.any_cons, ih]
    show (eqV (.int a) (.int x) || _) = _
    have e : eqV (.int a) (.int x) = decide (x = a) := by
      show (a == x) = _
      rw [Bool.beq_eq_decide_eq]
      exact decide_eq_decide.mpr ⟨fun h => h.symm, fun h => h.symm⟩
    rw [e, ← Bool.decide_or]
    exact decide_eq_decide.mpr List.mem_cons.symm
theorem flat_ints' (l : List Int) : (l.map V.int).all flatV = true := by
  induction l with
  | nil => rfl
  | cons a r ih => rw [List.map_cons, List.all_cons, ih]; rfl
theorem notIn_int {x : Int} {l : List Int} : (if true = true then !inV (V.int x) (l.map V.int) else inV (V.int x) (l.map V.int)) = !decide (x ∈ l) := by
  rw [if_pos rfl, int_in]
def rLenK (K : PySem.W.Frag) : List V → Hp → VK → Prop := fun xs H Q => ∃ p ys, xs = [.ref p] ∧ (SqL K H p ys ∨ SqT K H p ys) ∧ Q (.int (ys.length : Nat)) H
theorem call_len_seqK {X : Cx} {K : PySem.W.Frag} (h : X.K = K) : CallR X (.builtin "len") (rLenK K) := by
  subst h
  exact call_len_seq
end NL

namespace NL
open PySem PySem.Spec PyProof.Rows L2
theorem ixN_in {n : Nat} {k : Int} (h0 : 0 ≤ k) (h1 : k < n) : ixN n k = some k.toNat := by
  unfold ixN
  rw [if_pos h0, if_pos h1]
/-- a change at what was not there before -/
theorem same_put {H H' : Hp} {p : Addr} {o : HO} (s : Same H H') (hp : H p = none) : Same H (upd H' p o) := fun b u e => by
  rw [upd_ne (ne_of_none e hp)]
  exact s b u e
section
variable {P : Program} {w : World} {K : PySem.W.Frag} {mg : Str → Option Value} {base : Heap}
def spDraws (K : PySem.W.Frag) : Sp := fun vs H Q _ => ∃ (a : Addr) (ns : List Int) (m : Int), vs = [.ref a, .int m] ∧ SqL K H a (ns.map V.int) ∧ ns.length ≤ 63 ∧ 0 ≤ m ∧ m ≤ 10000 ∧
  ∀ d H', Same H H' → H d = none → Dr H' d → Q (.ref d) H'
theorem ok_law_draws (T : Txt K mg) : FnOk P w K mg base CX0 1 T.a_law_draws T.d_law_draws P_law_draws (spDraws K) := by
  refine T.F_law_draws.ok sc_law_draws (fun vs H Q E h => ?_) (fun cdv A outer s H vs Q E hr h => ?_)
  · obtain ⟨a, ns, m, rfl, _⟩ := h
    rfl
  obtain ⟨a, ns, m, rfl, hS, hl, m0, m1, q⟩ := h
  refine ⟨_, (pss_cons (ps_setLc (i := 2) (own := [("cell", 3)]) (g := (gName 3)) (tt := tYes) rfl sc_law_draws.nd rfl rfl (sw_true rfl rfl rfl (by decide +kernel)) (pi_list (pv 0)) (blkOk_by (N := N_law_draws) (sc := defScope s_law_draws) (by decide +kernel)) (fun _ _ _ _ _ => (pg_name (i := 3) sc_law_draws.nd rfl (Or.inl rfl))) (fun _ _ _ _ _ => pts_nil) (fun _ _ _ _ _ => (pe_callTy call_int1 (by rfl) T.z_int (by decide +kernel) (pa_cons (pv 3) pa_nil))))
    (C8.pss_cut (ps_if (pt_cmpR op_eq (pe_callB call_len_seq (by rfl) T.z_len PySem.boot_len (pa_cons (pv 2) pa_nil)) pe_int (nomark _))
    (pss_one (ps_expr (pe_bm PySem.F.plainAttrs_list PySem.F.slot_list_append PySem.F.type_list_append mt_append (pv 2) (pa_cons pe_int pa_nil))))
    pss_nil)
    (pss_cons (ps_set (i := 4) sc_law_draws.nd rfl (Or.inl rfl) (pe_callTy call_list_of (by rfl) T.z_list (by decide +kernel) (pa_cons (pv 2) pa_nil)))
    (pss_cons (ps_set (i := 5) sc_law_draws.nd rfl (Or.inl rfl) (pe_lst pa_nil))
    (pss_cons (ps_for  PassesOwn.never rfl (pi_range1 (by rfl) T.z_range (pa_cons (pv 1) pa_nil)) (pg_name (i := 6) sc_law_draws.nd rfl (Or.inl rfl))
    (pss_cons (ps_set (i := 7) sc_law_draws.nd rfl (Or.inl rfl) (pe_op op_mod (pv 6) (pe_callB call_len_seq (by rfl) T.z_len PySem.boot_len (pa_cons (pv 2) pa_nil))))
    (pss_one (ps_if (pt_cmpR op_ge (pe_ix ix_list (pv 2) (pv 7) (fun _ _ => rfl)) (pe_op op_pow pe_int pe_int) (nomark _))
    (pss_cons (ps_expr (pe_bm PySem.F.plainAttrs_list PySem.F.slot_list_append PySem.F.type_list_append mt_append (pv 5) (pa_cons (pe_op op_mod (pe_callTy call_int1 (by rfl) T.z_int (by decide +kernel) (pa_cons (pe_ix ix_list (pv 4) (pv 7) (fun _ _ => rfl)) pa_nil)) pe_int) pa_nil)))
    (pss_one (ps_asg (pe_op op_fdiv (pe_ix ix_list (pv 4) (pv 7) (fun _ _ => rfl)) pe_int) (pg_sub (pv 4) (pv 7) set_list))))
    (pss_cons (ps_set (i := 8) sc_law_draws.nd rfl (Or.inl rfl) (pe_op op_mod (pe_callTy call_int1 (by rfl) T.z_int (by decide +kernel) (pa_cons (pe_op op_add (pe_op op_add (pe_op op_mul (pe_ix ix_list (pv 2) (pv 7) (fun _ _ => rfl)) pe_int) (pe_op op_mul (pv 6) pe_int)) pe_int) pa_nil)) pe_int))
    (pss_one (ps_expr (pe_bm PySem.F.plainAttrs_list PySem.F.slot_list_append PySem.F.type_list_append mt_append (pv 5) (pa_cons (pe_op op_mod (pe_callTy call_int1 (by rfl) T.z_int (by decide +kernel) (pa_cons (pe_op op_add (pe_op op_add (pe_op op_mul (pv 8) (pv 8)) (pe_op op_mul pe_int (pv 8))) (pv 6)) pa_nil)) pe_int) pa_nil)))))))))
    (pss_cons (ps_expr (pe_bm0 PySem.F.plainAttrs_list PySem.F.slot_list_reverse PySem.F.type_list_reverse mt_reverse (pv 5)))
    (pss_one (ps_ret (pv 5))))))))), ?_⟩
  -- cells
  refine ⟨_, rfl, a, rfl, ⟨_, hS⟩, fun c hc => ?_⟩
  refine lc_list (K := K) (a := a) (xs := ns.map V.int) (fun (j : Nat) (H' : Hp) => Same H H' ∧ H' c = some (.lst ((ns.take j).map V.int))) ?_ ?_ ?_ ?_
  · exact ⟨same_new hc _, by rw [upd_same, List.take_zero]; rfl⟩
  · rintro i H' _ ⟨s1, _⟩
    exact s1.seq hS
  · rintro i x H' hx ⟨s1, e1⟩
    rw [List.getElem?_map] at hx
    cases hn : ns[i]? with
    | none => rw [hn] at hx; cases hx
    | some n =>
      rw [hn] at hx
      obtain rfl : V.int n = x := Option.some.inj hx
      refine ⟨rfl, yes_if ?_⟩
      refine ⟨_, rfl, .inl ⟨n, rfl, _, e1, ?_, same_put s1 hc, ?_⟩⟩
      · rw [List.length_map, List.length_take]
        exact big' (by omega)
      · rw [upd_same, List.take_add_one, hn, List.map_append]
        rfl
  · rintro H1 ⟨s1, e1⟩
    rw [List.length_map, List.take_length] at e1
    -- at least one cell
    refine ⟨fun σ H2 => ∃ cs : List Int, cs ≠ [] ∧ cs.length ≤ 63 ∧ σ = [some (.ref a), some (.int m), some (.ref c), none, none, none, none, none, none] ∧ Same H H2 ∧ H2 c = some (.lst (cs.map V.int)), ?_, ?_⟩
    · refine ⟨_, rfl, _, _, rfl, .inl (sqd e1), rfl, _, rfl, ?_⟩
      refine ite2 (fun z => ?_) (fun z => ?_)
      · refine ⟨_, rfl, .inl ⟨rfl, _, sqd e1⟩, c, _, _, rfl, rfl, e1, ?_, ?_⟩
        · rw [List.length_map]
          exact big' (by omega)
        · have hz := int_eq z
          rw [List.length_map] at hz
          have : ns = [] := List.length_eq_zero_iff.mp (by omega)
          subst this
          exact ⟨[0], by simp, by decide, rfl, same_put s1 hc, upd_same⟩
      · have hz := int_ne z
        rw [List.length_map] at hz
        refine ⟨ns, ?_, hl, rfl, s1, e1⟩
        rintro rfl
        exact hz rfl
    · rintro σ H2 ⟨cs, hcs, hcl, rfl, s2, e2⟩
      have hpos : 0 < cs.length := List.length_pos_iff.mpr hcs
      -- rest, draws
      refine ⟨_, rfl, _, _, rfl, .inl (sqd e2), fun r hr2 => ?_⟩
      have ncr : c ≠ r := ne_of_none e2 hr2
      refine ⟨(Nat.le_of_ble_eq_true rfl), fun d hd => ?_⟩
      have ncd : c ≠ d := ne_of_none (by rw [upd_ne ncr]; exact e2) hd
      have nrd : r ≠ d := ne_of_none upd_same hd
      have hHr : H r = none := s2.free hr2
      have hHd : H d = none := (s2.trans (same_new hr2 _)).free hd
      refine ⟨_, rfl, m, rfl, by omega, by omega, for_range (lo := 0) (n := m.toNat) (fun (j : Nat) (σ : L2.St) (H' : Hp) => ∃ (rs ds : List Int) (y1 y2 y3 : Option V), σ = [some (.ref a), some (.int m), some (.ref c), none, some (.ref r), some (.ref d), y1, y2, y3] ∧ Same H H' ∧ H' c = some (.lst (cs.map V.int)) ∧ H' r = some (.lst (rs.map V.int)) ∧ rs.length = cs.length ∧ H' d = some (.lst (ds.map V.int)) ∧ ds.length ≤ j) ?_ ?_ ?_⟩
      · refine ⟨cs, [], none, none, none, rfl, (s2.trans (same_new hr2 _)).trans (same_new hd _), ?_, ?_, rfl, upd_same, Nat.le_refl _⟩
        · rw [upd_ne ncd, upd_ne ncr]; exact e2
        · rw [upd_ne nrd]; exact upd_same
      · rintro j σ H' hj ⟨rs, ds, y1, y2, y3, rfl, s3, ec, er, hrl, ed, hdl⟩
        have b0 := Int.emod_nonneg ((0 : Int) + (j : Int)) (show (((cs.map V.int).length : Nat) : Int) ≠ 0 by rw [List.length_map]; omega)
        have b1 : (((0 : Int) + (j : Int)) % (((cs.map V.int).length : Nat) : Int)) < (cs.length : Int) := by
          have h := Int.emod_lt_of_pos ((0 : Int) + (j : Int)) (show 0 < (((cs.map V.int).length : Nat) : Int) by rw [List.length_map]; omega)
          rw [List.length_map] at h ⊢
          exact h
        refine ⟨_, rfl, _, rfl, _, _, rfl, .inl (sqd ec), _, _, rfl, rfl, (by show 0 < (((cs.map V.int).length : Nat) : Int); rw [List.length_map]; omega), ?_⟩
        obtain ⟨cv, hcv, _⟩ := atI_map (f := V.int) (xs := cs) b0 b1
        obtain ⟨rv, hrv, _⟩ := atI_map (f := V.int) (xs := rs) b0 (by omega)
        refine ⟨_, rfl, _, rfl, _, _, _, _, rfl, rfl, sqd ec, hcv, _, _, rfl, rfl, ⟨by decide, by decide, by decide⟩, _, _, rfl, rfl, _, rfl, ?_⟩
        refine ite2 (fun z => ?_) (fun z => ?_)
        · refine ⟨_, rfl, .inl ⟨rfl, _, sqd ed⟩, _, rfl, _, rfl, _, _, _, _, rfl, rfl, sqd er, hrv, .inl ⟨_, rfl, _, _, rfl, rfl, (by show (0 : Int) < 1000; decide), d, _, _, rfl, rfl, ed, ?_, ?_⟩⟩
          · rw [List.length_map]
            exact big' (by omega)
          · have er2 : ∀ o, (upd H' d o) r = some (.lst (rs.map V.int)) := fun o => by rw [upd_ne nrd]; exact er
            refine ⟨_, rfl, _, rfl, _, _, _, _, rfl, rfl, sqd (er2 _), hrv, _, _, rfl, rfl, ⟨by decide, by decide⟩, _, rfl, _, rfl, r, _, _, _, rfl, rfl, er2 _, ixN_in b0 (by have h : (rs.map V.int).length = rs.length := List.length_map _; omega), ?_⟩
            refine ⟨rs.set (((0 : Int) + (j : Int)) % (((cs.map V.int).length : Nat) : Int)).toNat (rv / 1000), ds ++ [rv % 1000], _, _, _, rfl, same_put (same_put s3 hHd) hHr, ?_, ?_, ?_, ?_, ?_⟩
            · rw [upd_ne ncr, upd_ne ncd]; exact ec
            · rw [upd_same, List.map_set]
            · rw [List.length_set]; exact hrl
            · rw [upd_ne nrd.symm, upd_same, List.map_append]; rfl
            · rw [List.length_append, List.length_singleton]; omega
        · have o0 := fun z : Int => Int.emod_nonneg z (by decide : (2147483647 : Int) ≠ 0)
          have o1 := fun z : Int => Int.emod_lt_of_pos z (by decide : (0 : Int) < 2147483647)
          refine ⟨_, rfl, _, rfl, _, _, _, _, rfl, rfl, sqd ec, hcv, _, _, rfl, rfl, .inr ⟨by decide, by decide⟩, _, rfl, _, _, rfl, rfl, .inr ⟨by decide, by decide⟩, _, _, rfl, rfl, _, _, rfl, rfl, .inl ⟨_, rfl, _, _, rfl, rfl, (by show (0 : Int) < 2147483647; decide), ?_⟩⟩
          refine ⟨_, rfl, .inl ⟨rfl, _, sqd ed⟩, _, rfl, _, rfl, _, _, rfl, rfl, ?_, ?_⟩
          · left
            have h1 := o0 (cv * 48271 + (0 + (j : Int)) * 69621 + 11)
            have h2 := o1 (cv * 48271 + (0 + (j : Int)) * 69621 + 11)
            constructor
            · show -(2 ^ 64) < _
              omega
            · show _ < 2 ^ 64
              omega
          · refine ⟨_, rfl, _, _, rfl, rfl, .inl ⟨by decide, by decide⟩, _, _, rfl, rfl, _, rfl, _, _, rfl, rfl, .inl ⟨_, rfl, _, _, rfl, rfl, (by show (0 : Int) < 1000003; decide), d, _, _, rfl, rfl, ed, ?_, ?_⟩⟩
            · rw [List.length_map]
              exact big' (by omega)
            · refine ⟨rs, ds ++ [(((cv * 48271 + (0 + (j : Int)) * 69621 + 11) % 2147483647) * ((cv * 48271 + (0 + (j : Int)) * 69621 + 11) % 2147483647) + 3 * ((cv * 48271 + (0 + (j : Int)) * 69621 + 11) % 2147483647) + (0 + (j : Int))) % 1000003], _, _, _, rfl, same_put s3 hHd, ?_, ?_, hrl, ?_, ?_⟩
              · rw [upd_ne ncd]; exact ec
              · rw [upd_ne nrd]; exact er
              · rw [upd_same, List.map_append]; rfl
              · rw [List.length_append, List.length_singleton]; omega
      · rintro σ H' ⟨rs, ds, y1, y2, y3, rfl, s3, ec, er, hrl, ed, hdl⟩
        refine ⟨_, rfl, .inl ⟨rfl, _, sqd ed⟩, d, _, rfl, rfl, ed, ?_⟩
        refine ⟨_, rfl, q d _ (same_put s3 hHd) hHd ⟨ds.reverse, ?_⟩⟩
        rw [upd_same, List.map_reverse]
end
end NL

namespace NL
open PySem PySem.Spec PyProof.Rows L2
/-! ### rows and what stands in them -/
def Each {α : Type} (R : α → V → Prop) (l : List α) (xs : List V) : Prop := xs.length = l.length ∧ ∀ (k : Nat) a x, l[k]? = some a → xs[k]? = some x → R a x
theorem Each.nil {α : Type} {R : α → V → Prop} : Each R [] [] := ⟨rfl, fun k a x h => by simp at h⟩
theorem Each.mono {α : Type} {R S : α → V → Prop} {l : List α} {xs : List V} (h : Each R l xs) (f : ∀ a x, R a x → S a x) : Each S l xs := ⟨h.1, fun k a x e g => f a x (h.2 k a x e g)⟩
theorem Each.cons {α : Type} {R : α → V → Prop} {l : List α} {xs : List V} {a : α} {x : V} (r : R a x) (h : Each R l xs) : Each R (a :: l) (x :: xs) := ⟨by rw [List.length_cons, List.length_cons, h.1], fun k b y e g => by
  cases k with
  | zero => cases e; cases g; exact r
  | succ k => exact h.2 k b y e g⟩
theorem Each.app {α : Type} {R : α → V → Prop} {l m : List α} {xs ys : List V} (h : Each R l xs) (g : Each R m ys) : Each R (l ++ m) (xs ++ ys) := by
  refine ⟨by rw [List.length_append, List.length_append, h.1, g.1], fun k r x e f => ?_⟩
  by_cases hk : k < l.length
  · rw [List.getElem?_append_left hk] at e
    rw [List.getElem?_append_left (by rw [h.1]; exact hk)] at f
    exact h.2 k r x e f
  · rw [List.getElem?_append_right (by omega)] at e
    rw [List.getElem?_append_right (by rw [h.1]; omega), h.1] at f
    exact g.2 _ r x e f
theorem Each.snoc {α : Type} {R : α → V → Prop} {l : List α} {xs : List V} {a : α} {x : V} (h : Each R l xs) (r : R a x) : Each R (l ++ [a]) (xs ++ [x]) := h.app (.cons r .nil)
theorem Each.take {α : Type} {R : α → V → Prop} {l : List α} {xs : List V} (h : Each R l xs) (n : Nat) : Each R (l.take n) (xs.take n) := ⟨by rw [List.length_take, List.length_take, h.1], fun k a x e g => by
  rw [List.getElem?_take] at e g
  split at e
  · rename_i hk
    rw [if_pos hk] at g
    exact h.2 k a x e g
  · cases e⟩
theorem Each.drop {α : Type} {R : α → V → Prop} {l : List α} {xs : List V} (h : Each R l xs) (n : Nat) : Each R (l.drop n) (xs.drop n) := ⟨by rw [List.length_drop, List.length_drop, h.1], fun k a x e g => by
  rw [List.getElem?_drop] at e g
  exact h.2 _ a x e g⟩
theorem Each.set {α : Type} {R : α → V → Prop} {l : List α} {xs : List V} {a : α} {x : V} (h : Each R l xs) (n : Nat) (r : R a x) : Each R (l.set n a) (xs.set n x) := ⟨by rw [List.length_set, List.length_set, h.1], fun k b y e g => by
  rw [List.getElem?_set] at e g
  by_cases hk : n = k
  · rw [if_pos hk] at e g
    by_cases hl : n < l.length
    · rw [if_pos hl] at e
      rw [if_pos (by rw [h.1]; exact hl)] at g
      cases e; cases g; exact r
    · rw [if_neg hl] at e
      cases e
  · rw [if_neg hk] at e g
    exact h.2 k b y e g⟩
theorem Each.at {α : Type} {R : α → V → Prop} {l : List α} {xs : List V} {a : α} {k : Nat} (h : Each R l xs) (e : l[k]? = some a) : ∃ x, xs[k]? = some x ∧ R a x := by
  have hk : k < xs.length := by
    rw [h.1]
    exact (List.getElem?_eq_some_iff.mp e).1
  exact ⟨_, List.getElem?_eq_getElem hk, h.2 k a _ e (List.getElem?_eq_getElem hk)⟩
theorem Each.atI {α : Type} {R : α → V → Prop} {l : List α} {xs : List V} {i : Int} (h : Each R l xs) (h0 : 0 ≤ i) (h1 : i < l.length) : ∃ a x, l[i.toNat]? = some a ∧ atI xs i = some x ∧ R a x := by
  have hk : i.toNat < l.length := by omega
  obtain ⟨x, hx, r⟩ := h.at (List.getElem?_eq_getElem hk)
  have q : L2.atI xs ((i.toNat : Nat) : Int) = some x := atI_nat hx
  rw [show ((i.toNat : Nat) : Int) = i by omega] at q
  exact ⟨_, x, List.getElem?_eq_getElem hk, q, r⟩
/-! ### options, positions, arenas -/
abbrev Opt := List Int
abbrev Pos' := List Opt
abbrev Ar := List Pos'
def OptIn (H : Hp) (o : Opt) (v : V) : Prop := ∃ b, v = .ref b ∧ H b = some (.tup (o.map V.int))
def PosIn (H : Hp) (os : Pos') (v : V) : Prop := ∃ b xs, v = .ref b ∧ H b = some (.tup xs) ∧ Each (OptIn H) os xs
def ArIn (H : Hp) (A : Ar) (v : V) : Prop := ∃ b xs, v = .ref b ∧ H b = some (.tup xs) ∧ Each (PosIn H) A xs
theorem OptIn.tp {H H' : Hp} {o : Opt} {v : V} (t : Tp H H') (h : OptIn H o v) : OptIn H' o v := by
  obtain ⟨b, e, q⟩ := h
  exact ⟨b, e, t _ _ q⟩
theorem PosIn.tp {H H' : Hp} {o : Pos'} {v : V} (t : Tp H H') (h : PosIn H o v) : PosIn H' o v := by
  obtain ⟨b, xs, e, q, r⟩ := h
  exact ⟨b, xs, e, t _ _ q, r.mono fun a x => OptIn.tp t⟩
theorem ArIn.tp {H H' : Hp} {o : Ar} {v : V} (t : Tp H H') (h : ArIn H o v) : ArIn H' o v := by
  obtain ⟨b, xs, e, q, r⟩ := h
  exact ⟨b, xs, e, t _ _ q, r.mono fun a x => PosIn.tp t⟩
/-- an option of an arena with n positions -/
structure OptG (n : Int) (o : Opt) : Prop where
  ne : o ≠ []
  len : o.length ≤ 60
  mem : ∀ s ∈ o, -1 ≤ s ∧ s < n
  asc : o.Pairwise (· < ·)
def PosG (n : Int) (os : Pos') : Prop := os.length ≤ 12 ∧ ∀ o ∈ os, OptG n o
def ArG (A : Ar) : Prop := A.length ≤ 46 ∧ ∀ os ∈ A, PosG A.length os
theorem OptG.one {n s : Int} (h0 : -1 ≤ s) (h1 : s < n) : OptG n [s] := ⟨by simp, by simp, fun t ht => by rw [List.mem_singleton.mp ht]; exact ⟨h0, h1⟩, List.pairwise_singleton _ _⟩
theorem asc_of {l m : List Int} (h : l.Perm m) (hm : m.Nodup) (hp : l.Pairwise (· ≤ ·)) : l.Pairwise (· < ·) := by
  have hn : l.Nodup := h.nodup_iff.mpr hm
  refine (hp.and hn).imp fun {a b} h => ?_
  obtain ⟨h1, h2⟩ := h
  omega
theorem tp_put {H H' : Hp} {p : Addr} {o : List V} {o' : HO} (t : Tp H H') (h : H' p = some (.lst o)) : Tp H (upd H' p o') := fun a xs e => by
  have n : a ≠ p := fun q => by
    have := t a xs e
    rw [q, h] at this
    cases this
  rw [upd_ne n]
  exact t a xs e
theorem Go.put2 {d p : Addr} {H H' : Hp} {o : HO} (g : Go d H H') (hp : H p = none) (n : p ≠ d) : Go d H (upd H' p o) := ⟨fun b u hb e => by
  rw [upd_ne (ne_of_none e hp)]
  exact g.fr b u hb e, by
  obtain ⟨ns, e⟩ := g.dr
  exact ⟨ns, by rw [upd_ne n.symm]; exact e⟩⟩
theorem new_ne {d p : Addr} {H : Hp} (h : Dr H d) (hp : H p = none) : p ≠ d := by
  rintro rfl
  obtain ⟨ns, e⟩ := h
  rw [hp] at e
  cases e
theorem Go.free {d p : Addr} {H H' : Hp} (g : Go d H H') (hp : H' p = none) : H p = none := by
  cases e : H p with
  | none => rfl
  | some o =>
    by_cases hd : p = d
    · obtain ⟨ns, q⟩ := g.dr
      rw [hd, q] at hp
      cases hp
    · rw [g.fr p o hd e] at hp
      cases hp
end NL

namespace NL
open PySem PySem.Spec PyProof.Rows L2 L2H HotX
/-! ### ascending successors -/
def ascB : Int → Int → List Int → Bool
  | _, _, [] => true
  | low, n, x :: r => decide (low ≤ x) && (decide (x < n) && ascB (x + 1) n r)
def okO (n : Int) (o : Opt) : Bool := !decide (o = []) && ascB (-1) n o
def okA (A : Ar) : Bool := A.all fun os => os.all (okO A.length)
theorem asc_good : ∀ {low n : Int} {o : List Int}, (∀ s ∈ o, low ≤ s ∧ s < n) → o.Pairwise (· < ·) → ascB low n o = true
  | _, _, [], _, _ => rfl
  | low, n, x :: r, h, p => by
    obtain ⟨h1, h2⟩ := List.pairwise_cons.mp p
    obtain ⟨h3, h4⟩ := h x List.mem_cons_self
    rw [ascB, decide_eq_true h3, decide_eq_true h4, asc_good (fun s hs => ⟨h1 s hs, (h s (List.mem_cons_of_mem _ hs)).2⟩) h2]
    rfl
theorem okO_good {n : Int} {o : Opt} (h : OptG n o) : okO n o = true := by
  unfold okO
  rw [decide_eq_false h.ne, asc_good h.mem h.asc]
  rfl
theorem asc_low : ∀ {low n : Int} {o : List Int}, ascB low n o = true → ∀ s ∈ o, low ≤ s ∧ s < n
  | _, _, [], _, s, hs => nomatch hs
  | low, n, x :: r, h, s, hs => by
    rw [ascB, Bool.and_eq_true, Bool.and_eq_true, decide_eq_true_eq, decide_eq_true_eq] at h
    obtain ⟨h1, h2, h3⟩ := h
    rcases List.mem_cons.mp hs with rfl | hs
    · exact ⟨h1, h2⟩
    · have := asc_low h3 s hs
      omega
theorem asc_pair : ∀ {low n : Int} {a : List Int} {x y : Int} {b : List Int}, ascB low n (a ++ x :: y :: b) = true → x < y
  | low, n, [], x, y, b, h => by
    rw [List.nil_append, ascB, Bool.and_eq_true, Bool.and_eq_true] at h
    have := asc_low h.2.2 y List.mem_cons_self
    omega
  | low, n, c :: a, x, y, b, h => by
    rw [List.cons_append, ascB, Bool.and_eq_true, Bool.and_eq_true] at h
    exact asc_pair h.2.2
theorem okA_good {A : Ar} (h : ArG A) : okA A = true := List.all_eq_true.mpr fun os hos => List.all_eq_true.mpr fun o ho => okO_good ((h.2 os hos).2 o ho)
section
variable {P : Program} {w : World} {K : PySem.W.Frag} {mg : Str → Option Value} {base : Heap}
/-! ### is_ascending -/
def spAsc : Sp := fun vs H Q _ => ∃ (b : Addr) (o : List Int) (low n : Int), vs = [.ref b, .int low, .int n] ∧ H b = some (.tup (o.map V.int)) ∧ Q (.bl (ascB low n o)) H
theorem asc_drop {low n : Int} {o : List Int} {j : Nat} {x : Int} (h : o[j]? = some x) : ascB low n (o.drop j) = (decide (low ≤ x) && (decide (x < n) && ascB (x + 1) n (o.drop (j + 1)))) := by
  obtain ⟨h1, e1⟩ := List.getElem?_eq_some_iff.mp h
  rw [List.drop_eq_getElem_cons h1, ascB, e1]
theorem ok_is_ascending (T : Txt K mg) : FnOk P w K mg base CX0 1 T.ais_ascending T.dis_ascending Pis_ascending spAsc := by
  refine T.Fis_ascending.ok scis_ascending (fun vs H Q E h => ?_) (fun cdv A outer s H vs Q E hr h => ?_)
  · obtain ⟨b, o, low, n, rfl, _⟩ := h
    rfl
  obtain ⟨b, o, low, n, rfl, hb, q⟩ := h
  refine ⟨_, (pss_cons (ps_set (i := 3) scis_ascending.nd rfl (Or.inl rfl) (pv 1))
    (pss_cons (ps_for  PassesOwn.never rfl (pi_tup (pv 0)) (pg_name (i := 4) scis_ascending.nd rfl (Or.inl rfl))
    (pss_cons (ps_if (pt_not (pt_chain op_le op_lt (pv 3) (pv 4) (pv 2)))
    (pss_one (ps_ret pe_bl))
    pss_nil)
    (pss_one (ps_set (i := 3) scis_ascending.nd rfl (Or.inl rfl) (pe_op op_add (pv 4) pe_int)))))
    (pss_one (ps_ret pe_bl)))), ?_⟩
  refine ⟨_, rfl, ?_⟩
  refine ⟨_, rfl, b, rfl, ⟨_, sqt hb⟩, for_tup (K := K) (a := b) (xs := o.map V.int) (fun (j : Nat) (σ : L2.St) (H' : Hp) => ∃ (l : Int) (y4 : Option V), σ = [some (.ref b), some (.int low), some (.int n), some (.int l), y4] ∧ H' = H ∧ ascB low n o = ascB l n (o.drop j)) ?_ ?_ ?_ ?_⟩
  · exact ⟨low, none, rfl, rfl, by rw [List.drop_zero]⟩
  · rintro j σ H' _ ⟨l, y4, rfl, rfl, _⟩
    exact sqt hb
  · rintro j x σ H' hx ⟨l, y4, rfl, rfl, he⟩
    rw [List.getElem?_map] at hx
    obtain ⟨i, hi, rfl⟩ := Option.map_eq_some_iff.mp hx
    rw [asc_drop hi] at he
    refine ⟨_, rfl, _, rfl, _, _, rfl, rfl, _, rfl, ?_⟩
    by_cases h1 : l ≤ i
    case neg =>
      refine ifF (decide_eq_false h1) ⟨_, rfl, iteT ?_⟩
      rw [decide_eq_false h1, Bool.false_and] at he
      rw [he] at q
      exact q
    refine ifT (decide_eq_true h1) ⟨_, rfl, _, _, rfl, rfl, _, rfl, ?_⟩
    rw [decide_eq_true h1, Bool.true_and] at he
    by_cases h2 : i < n
    case neg =>
      refine ifT (by rw [decide_eq_false h2] <;> rfl) ?_
      rw [decide_eq_false h2, Bool.false_and] at he
      rw [he] at q
      exact q
    refine ifF (by rw [decide_eq_true h2] <;> rfl) ?_
    rw [decide_eq_true h2, Bool.true_and] at he
    exact ⟨_, rfl, _, _, rfl, rfl, i + 1, _, rfl, rfl, he⟩
  · rintro σ H' ⟨l, y4, rfl, rfl, he⟩
    rw [List.length_map, List.drop_length] at he
    rw [he] at q
    exact q
/-! ### check_arena -/
theorem dp_ints {K : PySem.W.Frag} {H : Hp} : ∀ l : List Int, DpAll K H (l.map V.int) (l.map PyData.int)
  | [] => .nil
  | a :: r => .cons (.int a) (dp_ints r)
theorem lay_ints : ∀ l : List Int, PyData.canLayAll0 (l.map PyData.int) = true ∧ PyData.depthAll (l.map PyData.int) = 0
  | [] => ⟨rfl, rfl⟩
  | a :: r => by
    obtain ⟨h1, h2⟩ := lay_ints r
    refine ⟨?_, ?_⟩
    · show (true && PyData.canLayAll0 (r.map PyData.int)) = true
      rw [h1]
      rfl
    · show max 0 (PyData.depthAll (r.map PyData.int)) = 0
      rw [h2]
      rfl
theorem shaped_tup (l : List Int) : SeqAt.shaped (.tuple (l.map PyData.int)) = true := by
  obtain ⟨h1, h2⟩ := lay_ints l
  show (PyData.canLayAll0 (l.map PyData.int) && decide (PyData.depthAll (l.map PyData.int) + 1 ≤ 64)) = true
  rw [h1, h2]
  rfl
def spCheckArena (D : Addr) : Sp := fun vs H Q E => ∃ (v : V) (A : Ar), vs = [v] ∧ ArIn H A v ∧ (okA A = true → ∀ H', Same H H' → Q .non H') ∧ (okA A = false → ∀ H', Same H H' → E (.ref D) none H')
end
end NL

namespace NL
open PySem PySem.Spec PyProof.Rows L2 L2H HotX
def theBs : List Bool := [false, true, false, false, false, false, false, false, false, false]
section
variable {P : Program} {w : World} {K : PySem.W.Frag} {mg : Str → Option Value} {base : Heap}
/-! ### _law_class -/
def spClass (D : Addr) : SpE := fun a cls d vs H Q _ => vs = [.ref a] ∧ cls = .ref D ∧ d = none ∧ ∀ p H', Same H H' → H' p = some (.lst (theBs.map V.bl)) → Q (.ref p) H'
theorem ok_law_class (T : Txt K mg) (EX : Exs K mg) : FnE P w K mg base CX0 1 T.a_law_class T.d_law_class P_law_class (spClass EX.c_InvalidGoal) := by
  refine okE T.F_law_class sc_law_class (fun a cls d vs H Q E h => ?_) (fun cdv A outer s H vs Q E p cls d hot hz0 hr h => ?_)
  · obtain ⟨rfl, _⟩ := h
    rfl
  obtain ⟨rfl, rfl, rfl, q⟩ := h
  have hf : ∃ vs, p.2.data = .fields vs := by
    obtain ⟨_, vs, e, _⟩ := hot
    exact ⟨vs, e⟩
  have hz : Zc (.ref EX.c_InvalidGoal) none p.2 := hz0
  have hEC : ExcC (cxH CX0 P w K mg base N_law_class "_law_class" (defScope s_law_class) T.a_law_class cdv A outer s H E p).K EX.c_InvalidGoal := EX.ec
  have hpin : p ∈ (cxH CX0 P w K mg base N_law_class "_law_class" (defScope s_law_class) T.a_law_class cdv A outer s H E p).pn := List.mem_cons_self
  have no : ∀ {C : Addr}, PySem.W.subIn K (.ref EX.c_InvalidGoal) (.ref C) = some false → (false = false → EX.c_InvalidGoal ≠ C) := fun h _ => self_ne EX.s_InvalidGoal h
  refine ⟨_, (pss_cons (ps_set (i := 1) sc_law_class.nd rfl (Or.inl rfl) (pe_lst (pa_cons (pe_callB (call_isP hEC hpin hz hf) (by rfl) T.z_isinstance (by decide +kernel) (pa_cons (pv 0) (pa_cons (pe_glob (v := .ref EX.c_InvalidArena) rfl EX.g_InvalidArena rfl) pa_nil))) (pa_cons (pe_callB (call_isP hEC hpin hz hf) (by rfl) T.z_isinstance (by decide +kernel) (pa_cons (pv 0) (pa_cons (pe_glob (v := .ref EX.c_InvalidGoal) rfl EX.g_InvalidGoal rfl) pa_nil))) (pa_cons (pe_callB (call_isP hEC hpin hz hf) (by rfl) T.z_isinstance (by decide +kernel) (pa_cons (pv 0) (pa_cons (pe_glob (v := .ref EX.c_InvalidPlant) rfl EX.g_InvalidPlant rfl) pa_nil))) pa_nil)))))
    (pss_cons (ps_set (i := 1) sc_law_class.nd rfl (Or.inl rfl) (pe_op op_cat (pv 1) (pe_lst (pa_cons (pe_callB (call_isP hEC hpin hz hf) (by rfl) T.z_isinstance (by decide +kernel) (pa_cons (pv 0) (pa_cons (pe_glob (v := .ref EX.c_InvalidExpression) rfl EX.g_InvalidExpression rfl) pa_nil))) (pa_cons (pe_callB (call_isP hEC hpin hz hf) (by rfl) T.z_isinstance (by decide +kernel) (pa_cons (pv 0) (pa_cons (pe_glob (v := .ref EX.c_BadText) rfl EX.g_BadText rfl) pa_nil))) (pa_cons (pe_callB (call_isP hEC hpin hz hf) (by rfl) T.z_isinstance (by decide +kernel) (pa_cons (pv 0) (pa_cons (pe_glob (v := .ref EX.c_NoPosition) rfl EX.g_NoPosition rfl) pa_nil))) pa_nil))))))
    (pss_one (ps_ret (pe_op op_cat (pv 1) (pe_lst (pa_cons (pe_callB (call_isP hEC hpin hz hf) (by rfl) T.z_isinstance (by decide +kernel) (pa_cons (pv 0) (pa_cons (pe_glob (v := .ref EX.c_Held) rfl EX.g_Held rfl) pa_nil))) (pa_cons (pe_callB (call_isP hEC hpin hz hf) (by rfl) T.z_isinstance (by decide +kernel) (pa_cons (pv 0) (pa_cons (pe_glob (v := .ref EX.c_NotHeld) rfl EX.g_NotHeld rfl) pa_nil))) (pa_cons (pe_callB (call_isP hEC hpin hz hf) (by rfl) T.z_isinstance (by decide +kernel) (pa_cons (pv 0) (pa_cons (pe_glob (v := .ref EX.c_BadReply) rfl EX.g_BadReply rfl) pa_nil))) (pa_cons (pe_callB (call_isP hEC hpin hz hf) (by rfl) T.z_isinstance (by decide +kernel) (pa_cons (pv 0) (pa_cons (pe_glob (v := .ref EX.c_Lost) rfl EX.g_Lost rfl) pa_nil))) pa_nil)))))))))), ?_⟩
  refine ⟨_, rfl, _, .ref EX.c_InvalidArena, false, rfl, (fun u r => r), kit_ref (no EX.s_InvalidArena) EX.i_InvalidArena EX.t_InvalidArena EX.s_InvalidArena, ?_⟩
  refine ⟨_, rfl, _, .ref EX.c_InvalidGoal, true, rfl, (fun u r => r), kit_ref (fun h => nomatch h) EX.i_InvalidGoal EX.t_InvalidGoal EX.s_InvalidGoal, ?_⟩
  refine ⟨_, rfl, _, .ref EX.c_InvalidPlant, false, rfl, (fun u r => r), kit_ref (no EX.s_InvalidPlant) EX.i_InvalidPlant EX.t_InvalidPlant EX.s_InvalidPlant, ?_⟩
  refine ⟨Nat.le_of_ble_eq_true rfl, fun p1 h1 => ?_⟩
  have s1 := fun o => same_new h1 o
  refine ⟨_, rfl, ?_⟩
  refine ⟨_, rfl, _, .ref EX.c_InvalidExpression, false, rfl, (fun u r => r), kit_ref (no EX.s_InvalidExpression) EX.i_InvalidExpression EX.t_InvalidExpression EX.s_InvalidExpression, ?_⟩
  refine ⟨_, rfl, _, .ref EX.c_BadText, false, rfl, (fun u r => r), kit_ref (no EX.s_BadText) EX.i_BadText EX.t_BadText EX.s_BadText, ?_⟩
  refine ⟨_, rfl, _, .ref EX.c_NoPosition, false, rfl, (fun u r => r), kit_ref (no EX.s_NoPosition) EX.i_NoPosition EX.t_NoPosition EX.s_NoPosition, ?_⟩
  refine ⟨Nat.le_of_ble_eq_true rfl, fun p2 h2 => ?_⟩
  have s2 := fun o => (s1 _).trans (same_new h2 o)
  refine ⟨p1, p2, _, _, rfl, rfl, same_new h2 _ _ _ upd_same, upd_same, Nat.le_of_ble_eq_true rfl, fun p3 h3 => ?_⟩
  have s3 := fun o => (s2 _).trans (same_new h3 o)
  refine ⟨_, rfl, ?_⟩
  refine ⟨_, rfl, _, .ref EX.c_Held, false, rfl, (fun u r => r), kit_ref (no EX.s_Held) EX.i_Held EX.t_Held EX.s_Held, ?_⟩
  refine ⟨_, rfl, _, .ref EX.c_NotHeld, false, rfl, (fun u r => r), kit_ref (no EX.s_NotHeld) EX.i_NotHeld EX.t_NotHeld EX.s_NotHeld, ?_⟩
  refine ⟨_, rfl, _, .ref EX.c_BadReply, false, rfl, (fun u r => r), kit_ref (no EX.s_BadReply) EX.i_BadReply EX.t_BadReply EX.s_BadReply, ?_⟩
  refine ⟨_, rfl, _, .ref EX.c_Lost, false, rfl, (fun u r => r), kit_ref (no EX.s_Lost) EX.i_Lost EX.t_Lost EX.s_Lost, ?_⟩
  refine ⟨Nat.le_of_ble_eq_true rfl, fun p4 h4 => ?_⟩
  have s4 := fun o => (s3 _).trans (same_new h4 o)
  refine ⟨p3, p4, _, _, rfl, rfl, same_new h4 _ _ _ upd_same, upd_same, Nat.le_of_ble_eq_true rfl, fun p5 h5 => ?_⟩
  exact q p5 _ ((s4 _).trans (same_new h5 _)) upd_same
/-! ### _law_only -/
def onlyB (n : Int) (j : Nat) : List Bool := (List.range j).map fun k : Nat => decide (V.int (0 + (k : Int)) = V.int n)
def spOnly : Sp := fun vs H Q _ => ∃ n : Int, vs = [.int n] ∧ ∀ p H', Same H H' → H' p = some (.lst ((onlyB n 10).map V.bl)) → Q (.ref p) H'
theorem ok_law_only (T : Txt K mg) : FnOk P w K mg base CX0 1 T.a_law_only T.d_law_only P_law_only spOnly := by
  refine T.F_law_only.ok sc_law_only (fun vs H Q E h => ?_) (fun cdv A outer s H vs Q E hr h => ?_)
  · obtain ⟨n, rfl, _⟩ := h
    rfl
  obtain ⟨n, rfl, q⟩ := h
  refine ⟨_, (pss_one (ps_ret (pe_lc (own := [("k", 1)]) (g := (gName 1)) (tt := tYes) rfl sc_law_only.nd (pi_range1 (by rfl) T.z_range (pa_cons pe_int pa_nil)) (blkOk_by (N := N_law_only) (sc := defScope s_law_only) (by decide +kernel)) (fun _ _ _ _ _ => (pg_name (i := 1) sc_law_only.nd rfl (Or.inl rfl))) (fun _ _ _ _ _ => pts_nil) (fun _ _ _ _ _ => (pe_cmpR op_eq (pv 1) (pv 0) (nomark _)))))), ?_⟩
  refine ⟨10, rfl, by decide, by decide, fun D hD => ?_⟩
  refine lc_range (lo := 0) (n := 10) (fun (j : Nat) (H' : Hp) => Same H H' ∧ H' D = some (.lst ((onlyB n j).map V.bl))) ?_ ?_ ?_
  · exact ⟨same_new hD _, upd_same⟩
  · rintro j H' hj ⟨s1, e1⟩
    refine ⟨rfl, yes_if ?_⟩
    refine ⟨_, rfl, _, rfl, rfl, _, e1, ?_, same_put s1 hD, ?_⟩
    · rw [List.length_map]
      unfold onlyB
      rw [List.length_map, List.length_range]
      exact big' (by omega)
    · rw [upd_same]
      unfold onlyB
      rw [List.range_succ, List.map_append, List.map_append]
      rfl
  · rintro H' ⟨s1, e1⟩
    exact q D H' s1 e1
theorem only_at : onlyB 1 10 = theBs := by decide
/-! ### two lists of bools -/
theorem dp_bls {K : PySem.W.Frag} {H : Hp} : ∀ l : List Bool, DpAll K H (l.map V.bl) (l.map PyData.bool)
  | [] => .nil
  | a :: r => .cons (.bl a) (dp_bls r)
theorem ne_bls {K : PySem.W.Frag} {H : Hp} {p q : Addr} {Q : VK} (hp : H p = some (.lst (theBs.map V.bl))) (hq : H q = some (.lst (theBs.map V.bl))) (h : Q (.bl false) H) : rNeD K (.ref p) (.ref q) H Q := by
  refine ⟨_, _, .lst (sqd hp) (dp_bls theBs), .lst (sqd hq) (dp_bls theBs), by decide +kernel, by decide +kernel, ?_⟩
  rw [SeqAt.eqv_refl _ (by decide +kernel)]
  exact h
end
end NL

namespace NL
open PySem PySem.Spec PyProof.Rows L2
theorem newH {H : Hp} {p : Addr} (hp : H p = none) (o : HO) : ∃ H', upd H p o = H' ∧ Same H H' ∧ H' p = some o := ⟨_, rfl, same_new hp _, upd_same⟩
theorem catA_of {K : PySem.W.Frag} {a b : Addr} {xs ys : List V} {H : Hp} {Q : VK} (ha : H a = some (.tup xs)) (hb : H b = some (.tup ys)) (hl : xs.length + ys.length ≤ 1000) (q : ∀ p H', Same H H' → H' p = some (.tup (xs ++ ys)) → Q (.ref p) H') : rCatA K (.ref a) (.ref b) H Q := by
  refine ⟨a, b, xs, ys, rfl, rfl, sqt ha, sqt hb, big (by omega), fun h => ?_, fun _ h => ?_, fun _ _ p hp => ?_⟩
  · exact q b H (Same.refl H) (by rw [h, List.nil_append]; exact hb)
  · exact q a H (Same.refl H) (by rw [h, List.append_nil]; exact ha)
  · exact q p _ (same_new hp _) upd_same
theorem rg_ints (a b : Int) : rgV a b = ((List.range (b - a).toNat).map fun i : Nat => a + (i : Int)).map V.int := by
  unfold rgV
  rw [List.map_map]
  rfl
theorem rg_good {a n : Int} (h0 : -1 ≤ a) (h1 : a ≤ 0) (hn : 0 < n) (hm : n ≤ 46) : OptG n ((List.range (n - a).toNat).map fun i : Nat => a + (i : Int)) := by
  refine ⟨fun e => ?_, ?_, fun s hs => ?_, ?_⟩
  · have h := congrArg List.length e
    rw [List.length_map, List.length_range, List.length_nil] at h
    omega
  · rw [List.length_map, List.length_range]
    omega
  · obtain ⟨i, hi, rfl⟩ := List.mem_map.mp hs
    have := List.mem_range.mp hi
    omega
  · rw [List.pairwise_map]
    exact List.pairwise_lt_range.imp fun {a b} h => by omega
section
variable {P : Program} {w : World} {K : PySem.W.Frag} {mg : Str → Option Value} {base : Heap}
/-! ### _law_option -/
def spOption : Sp := fun vs H Q _ => ∃ (d : Addr) (n k sh : Int), vs = [.ref d, .int n, .int k, .int sh] ∧ Dr H d ∧ 0 ≤ k ∧ k < n ∧ n ≤ 45 ∧ ∀ p o H', Go d H H' → H p = none → H' p = some (.tup (o.map V.int)) → OptG n o → Q (.ref p) H'
theorem ok_law_option (T : Txt K mg) : FnOk P w K mg base CX0 2 T.a_law_option T.d_law_option P_law_option spOption := by
  have G_law_take := ok_law_take (P := P) (w := w) (base := base) T
  refine T.F_law_option.ok sc_law_option (fun vs H Q E h => ?_) (fun cdv A outer s H vs Q E hr h => ?_)
  · obtain ⟨d, n, k, sh, rfl, _⟩ := h
    rfl
  obtain ⟨d, n, k, sh, rfl, hD, k0, k1, n45, q⟩ := h
  have hn0 : 0 < n := by omega
  refine ⟨_, (pss_cons (ps_set (i := 4) sc_law_option.nd rfl (Or.inl rfl) (pe_lst pa_nil))
    (pss_cons (ps_for  PassesOwn.never rfl (pi_range1 (by rfl) T.z_range (pa_cons (pe_op op_add pe_int (pe_ix ix_list (pe_lst (pa_cons pe_int (pa_cons pe_int (pa_cons pe_int (pa_cons pe_int (pa_cons pe_int (pa_cons pe_int pa_nil))))))) (pe_call G_law_take (hr.mono (by omega)) (by rfl) T.m_law_take T.F_law_take.kp T.b_law_take .nil pass0 (pa_cons (pv 0) (pa_cons pe_int pa_nil))) (fun _ _ => rfl))) pa_nil)) (pg_name (i := 5) sc_law_option.nd rfl (Or.inl rfl))
    (pss_cons (ps_set (i := 6) sc_law_option.nd rfl (Or.inl rfl) (pe_call G_law_take (hr.mono (by omega)) (by rfl) T.m_law_take T.F_law_take.kp T.b_law_take .nil pass0 (pa_cons (pv 0) (pa_cons (pv 1) pa_nil))))
    (C8.pss_cut (ps_if (pt_cmpR op_eq (pv 3) pe_int (nomark _))
    (pss_one (ps_set (i := 6) sc_law_option.nd rfl (Or.inl rfl) (pe_op op_mod (pe_callTy call_int1 (by rfl) T.z_int (by decide +kernel) (pa_cons (pe_op op_add (pe_op op_add (pv 2) pe_int) (pe_op op_fdiv (pv 6) pe_int)) pa_nil)) (pv 1))))
    pss_nil)
    (C8.pss_cut (ps_if (pt_cmpR op_eq (pv 3) pe_int (nomark _))
    (pss_one (ps_set (i := 6) sc_law_option.nd rfl (Or.inl rfl) (pe_callB (call_max2 rfl) (by rfl) T.z_max (by decide +kernel) (pa_cons pe_int (pa_cons (pe_op op_sub (pv 2) (pe_op op_mod (pe_callTy call_int1 (by rfl) T.z_int (by decide +kernel) (pa_cons (pv 6) pa_nil)) pe_int)) pa_nil)))))
    pss_nil)
    (C8.pss_cut (ps_if (PW.pt (pw_and (pt_cmpR op_ne (pv 3) pe_int (nomark _)) (pw_and1 (pt_cmpR op_eq (pe_call G_law_take (hr.mono (by omega)) (by rfl) T.m_law_take T.F_law_take.kp T.b_law_take .nil pass0 (pa_cons (pv 0) (pa_cons pe_int pa_nil))) pe_int (nomark _)))))
    (pss_one (ps_set (i := 6) sc_law_option.nd rfl (Or.inl rfl) (pe_un un_neg pe_int)))
    pss_nil)
    (pss_one (ps_if (pt_cmpR op_notIn_seq (pv 6) (pv 4) (by rfl))
    (pss_one (ps_expr (pe_bm PySem.F.plainAttrs_list PySem.F.slot_list_append PySem.F.type_list_append mt_append (pv 4) (pa_cons (pv 6) pa_nil))))
    pss_nil)))))))
    (pss_one (ps_ret (pe_callTy call_tuple_of (by rfl) T.z_tuple (by decide +kernel) (pa_cons (pe_callB (cr_sorted) (by rfl) T.z_sorted (by decide +kernel) (pa_cons (pv 4) pa_nil)) pa_nil)))))), ?_⟩
  refine ⟨Nat.zero_le _, fun fl hfl => ?_⟩
  have nfl := new_ne hD hfl
  obtain ⟨H1, e1, s1, c1⟩ := newH hfl (.lst [])
  rw [e1]
  refine ⟨Nat.le_of_ble_eq_true rfl, fun l5 hl5 => ?_⟩
  obtain ⟨H2, e2, s2, c2⟩ := newH hl5 (.lst [.int 0, .int 0, .int 1, .int 1, .int 2, .int 3])
  rw [e2]
  have ga := Go.same hD s1
  have gb := ga.trans (.same ga.dr s2)
  refine ⟨_, rfl, d, 6, rfl, gb.dr, by decide, fun u H3 g3 u0 u1 => ?_⟩
  obtain ⟨mf, hmf, hmfm⟩ := atI_map (f := V.int) (xs := ([0, 0, 1, 1, 2, 3] : List Int)) u0 u1
  have hmf3 : 0 ≤ mf ∧ mf ≤ 3 := by
    simp only [List.mem_cons, List.not_mem_nil, or_false] at hmfm
    omega
  refine ⟨l5, _, _, _, rfl, rfl, sqd (g3.fr l5 _ (new_ne ga.dr hl5) c2), hmf, _, _, rfl, rfl, 1 + mf, rfl, by omega, by omega, ?_⟩
  have gc := gb.trans g3
  have ef := g3.fr fl _ nfl (s2 _ _ c1)
  refine for_range (lo := 0) (n := (1 + mf).toNat) (fun (i : Nat) (σ : L2.St) (H' : Hp) => ∃ (fs : List Int) (y5 y6 : Option V), σ = [some (.ref d), some (.int n), some (.int k), some (.int sh), some (.ref fl), y5, y6] ∧ Go d H H' ∧ H' fl = some (.lst (fs.map V.int)) ∧ fs.Nodup ∧ fs.length ≤ i ∧ (∀ s ∈ fs, -1 ≤ s ∧ s < n) ∧ (0 < i → fs ≠ [])) ?_ ?_ ?_
  · exact ⟨[], none, none, rfl, gc, ef, List.nodup_nil, Nat.zero_le _, fun s h => (nomatch h), fun h => absurd h (by omega)⟩
  · rintro t σ H4 ht ⟨fs, y5, y6, rfl, g4, e4, hnd, hlen, hmem, hne⟩
    generalize hk3 : (0 : Int) + (t : Int) = k3
    refine ⟨_, rfl, _, rfl, d, n, rfl, g4.dr, hn0, fun x H5 g5 x0 x1 => ?_⟩
    have e5 := g5.fr fl _ nfl e4
    have g45 := g4.trans g5
    refine ⟨fun σ H' => ∃ x : Int, σ = [some (.ref d), some (.int n), some (.int k), some (.int sh), some (.ref fl), some (.int k3), some (.int x)] ∧ H' = H5 ∧ -1 ≤ x ∧ x < n, ?_, ?_⟩
    · refine ⟨_, rfl, rfl, _, rfl, ?_⟩
      refine ite2 (fun z => ?_) (fun z => ⟨x, rfl, rfl, by omega, x1⟩)
      refine ⟨_, rfl, _, _, rfl, rfl, _, rfl, _, _, rfl, rfl, ⟨by decide, by decide⟩, _, _, rfl, rfl, .inl ⟨_, rfl, _, rfl, _, _, rfl, rfl, hn0, ?_⟩⟩
      exact ⟨_, rfl, rfl, by have := Int.emod_nonneg (k + 1 + x / 3) (show n ≠ 0 by omega); omega, Int.emod_lt_of_pos _ hn0⟩
    rintro σ H6 ⟨x, rfl, rfl, x0, x1⟩
    refine ⟨fun σ H' => ∃ x : Int, σ = [some (.ref d), some (.int n), some (.int k), some (.int sh), some (.ref fl), some (.int k3), some (.int x)] ∧ H' = H6 ∧ -1 ≤ x ∧ x < n, ?_, ?_⟩
    · refine ⟨_, rfl, rfl, _, rfl, ?_⟩
      refine ite2 (fun z => ?_) (fun z => ⟨x, rfl, rfl, x0, x1⟩)
      refine ⟨_, rfl, _, rfl, .inl ⟨_, rfl, _, _, rfl, rfl, (by show (0 : Int) < 3; decide), _, _, rfl, rfl, _, _, rfl, ?_⟩⟩
      have m0 := Int.emod_nonneg x (show (3 : Int) ≠ 0 by decide)
      refine ⟨_, rfl, rfl, ?_, ?_⟩
      · show (-1 : Int) ≤ (if k - x % 3 > 0 then k - x % 3 else 0)
        split <;> omega
      · show (if k - x % 3 > 0 then k - x % 3 else 0) < n
        split <;> omega
    rintro σ H7 ⟨x, rfl, rfl, x0, x1⟩
    refine ⟨fun σ H' => ∃ x : Int, σ = [some (.ref d), some (.int n), some (.int k), some (.int sh), some (.ref fl), some (.int k3), some (.int x)] ∧ Go d H7 H' ∧ -1 ≤ x ∧ x < n, ?_, ?_⟩
    · refine ⟨_, rfl, rfl, _, rfl, ?_⟩
      refine ite2 (fun z => ?_) (fun z => iteF ⟨x, rfl, .refl g45.dr, x0, x1⟩)
      refine ⟨_, rfl, d, 14, rfl, g45.dr, by decide, fun y H8 g8 _ _ => ⟨rfl, _, rfl, ?_⟩⟩
      refine ite2 (fun z => ⟨_, rfl, -1, rfl, g8, by omega, by omega⟩) (fun z => ⟨x, rfl, g8, x0, x1⟩)
    rintro σ H8 ⟨x, rfl, g8, x0, x1⟩
    have e8 := g8.fr fl _ nfl e5
    have g48 := g45.trans g8
    refine ⟨_, rfl, _, rfl, fl, _, rfl, .inl (sqd e8), rfl, flat_ints' fs, _, rfl, ?_⟩
    by_cases hin : x ∈ fs
    · refine ifF (by rw [notIn_int, decide_eq_true hin] <;> rfl) ?_
      exact ⟨fs, _, _, rfl, g48, e8, hnd, by omega, hmem, fun _ e => by rw [e] at hin; cases hin⟩
    · refine ifT (by rw [notIn_int, decide_eq_false hin] <;> rfl) ?_
      refine ⟨_, rfl, .inl ⟨rfl, _, sqd e8⟩, _, rfl, fl, _, _, rfl, rfl, e8, big' (by rw [List.length_map]; omega), ?_⟩
      refine ⟨fs ++ [x], _, _, rfl, g48.put2 hfl nfl, by rw [upd_same, List.map_append]; rfl, ?_, ?_, ?_, fun _ => by simp⟩
      · exact List.nodup_append.mpr ⟨hnd, by simp, fun a ha b hb e => hin (by rw [← List.mem_singleton.mp hb, ← e]; exact ha)⟩
      · rw [List.length_append]
        exact Nat.add_le_add_right hlen 1
      · intro s hs
        rcases List.mem_append.mp hs with hs | hs
        · exact hmem s hs
        · rw [List.mem_singleton.mp hs]
          exact ⟨x0, x1⟩
  · rintro σ H4 ⟨fs, y5, y6, rfl, g4, e4, hnd, hlen, hmem, hne⟩
    have hfl64 : fs.length ≤ 4 := by omega
    refine ⟨_, rfl, fl, fs, rfl, sqd e4, by omega, fun ns q1 hperm hpw hq1 => ?_⟩
    obtain ⟨Hd, ed, sd, kd⟩ := newH hq1 (.lst (ns.map V.int))
    rw [ed]
    refine ⟨q1, _, rfl, .inl ⟨sqd kd, fun t2 ht2 => ?_⟩⟩
    have gd := g4.trans (.same g4.dr sd)
    refine q t2 ns _ (gd.trans (Go.new gd.dr ht2)) (gd.free ht2) upd_same ⟨fun e => ?_, by have := hperm.length_eq; omega, fun s hs => hmem s (hperm.mem_iff.mp hs), asc_of hperm hnd hpw⟩
    rw [e] at hperm
    exact hne (by omega) hperm.symm.eq_nil
/-! ### _law_arena -/
def spArena : Sp := fun vs H Q _ => ∃ (d : Addr) (most : Int), vs = [.ref d, .int most] ∧ Dr H d ∧ 0 ≤ most ∧ most ≤ 45 ∧ ∀ v A H', Go d H H' → ArIn H' A v → ArG A → Q v H'
theorem ok_law_arena (T : Txt K mg) : FnOk P w K mg base CX0 3 T.a_law_arena T.d_law_arena P_law_arena spArena := by
  have G_law_take := ok_law_take (P := P) (w := w) (base := base) T
  have G_law_option := ok_law_option (P := P) (w := w) (base := base) T
  refine T.F_law_arena.ok sc_law_arena (fun vs H Q E h => ?_) (fun cdv A outer s H vs Q E hr h => ?_)
  · obtain ⟨d, most, rfl, _⟩ := h
    rfl
  obtain ⟨d, most, rfl, hD, m0, m1, q⟩ := h
  refine ⟨_, (pss_cons (ps_set (i := 2) sc_law_arena.nd rfl (Or.inr rfl) (pe_call G_law_take (hr.mono (by omega)) (by rfl) T.m_law_take T.F_law_take.kp T.b_law_take .nil pass0 (pa_cons (pv 0) (pa_cons (pe_op op_add (pv 1) pe_int) pa_nil))))
    (pss_cons (ps_set (i := 3) sc_law_arena.nd rfl (Or.inr rfl) (pe_call G_law_take (hr.mono (by omega)) (by rfl) T.m_law_take T.F_law_take.kp T.b_law_take .nil pass0 (pa_cons (pv 0) (pa_cons pe_int pa_nil))))
    (pss_cons (ps_set (i := 4) sc_law_arena.nd rfl (Or.inl rfl) (pe_lst pa_nil))
    (pss_cons (ps_for  PassesOwn.never rfl (pi_range1 (by rfl) T.z_range (pa_cons (pv 2) pa_nil)) (pg_name (i := 5) sc_law_arena.nd rfl (Or.inr rfl))
    (pss_cons (ps_set (i := 6) sc_law_arena.nd rfl (Or.inl rfl) (pe_ix ix_list (pe_lst (pa_cons pe_int (pa_cons pe_int (pa_cons pe_int (pa_cons pe_int (pa_cons pe_int (pa_cons pe_int pa_nil))))))) (pe_call G_law_take (hr.mono (by omega)) (by rfl) T.m_law_take T.F_law_take.kp T.b_law_take .nil pass0 (pa_cons (pv 0) (pa_cons pe_int pa_nil))) (fun _ _ => rfl)))
    (C8.pss_cut (ps_if (pt_cmpR op_gt (pv 3) pe_int (nomark _))
    (pss_one (ps_set (i := 6) sc_law_arena.nd rfl (Or.inl rfl) (pe_callB (call_max2 rfl) (by rfl) T.z_max (by decide +kernel) (pa_cons pe_int (pa_cons (pv 6) pa_nil)))))
    pss_nil)
    (pss_one (ps_expr (pe_bm PySem.F.plainAttrs_list PySem.F.slot_list_append PySem.F.type_list_append mt_append (pv 4) (pa_cons (pe_callTy call_tuple_of (by rfl) T.z_tuple (by decide +kernel) (pa_cons (pe_lc (own := [("j", 7)]) (g := (gName 7)) (tt := tYes) rfl sc_law_arena.nd (pi_range1 (by rfl) T.z_range (pa_cons (pv 6) pa_nil)) (blkOk_by (N := N_law_arena) (sc := defScope s_law_arena) (by decide +kernel)) (fun _ _ _ _ _ => (pg_name (i := 7) sc_law_arena.nd rfl (Or.inl rfl))) (fun _ _ _ _ _ => pts_nil) (fun _ _ _ _ _ => (pe_call G_law_option (hr.mono (by omega)) (by rfl) T.m_law_option T.F_law_option.kp T.b_law_option .nil pass0 (pa_cons (pv 0) (pa_cons (pv 2) (pa_cons (pv 5) (pa_cons (pv 3) pa_nil))))))) pa_nil)) pa_nil)))))))
    (C8.pss_cut (ps_if (PW.pt (pw_and (pt_cmpR op_gt (pv 2) pe_int (nomark _)) (pw_and1 (pt_cmpR op_eq (pe_call G_law_take (hr.mono (by omega)) (by rfl) T.m_law_take T.F_law_take.kp T.b_law_take .nil pass0 (pa_cons (pv 0) (pa_cons pe_int pa_nil))) pe_int (nomark _)))))
    (pss_cons (ps_set (i := 8) sc_law_arena.nd rfl (Or.inr rfl) (pe_call G_law_take (hr.mono (by omega)) (by rfl) T.m_law_take T.F_law_take.kp T.b_law_take .nil pass0 (pa_cons (pv 0) (pa_cons (pv 2) pa_nil))))
    (pss_cons (ps_setLc (i := 9) (own := [("j", 7)]) (g := (gName 7)) (tt := tYes) rfl sc_law_arena.nd rfl rfl (sw_true rfl rfl rfl (by decide +kernel)) (pi_range1 (by rfl) T.z_range (pa_cons (pe_op op_add pe_int (pe_call G_law_take (hr.mono (by omega)) (by rfl) T.m_law_take T.F_law_take.kp T.b_law_take .nil pass0 (pa_cons (pv 0) (pa_cons pe_int pa_nil)))) pa_nil)) (blkOk_by (N := N_law_arena) (sc := defScope s_law_arena) (by decide +kernel)) (fun _ _ _ _ _ => (pg_name (i := 7) sc_law_arena.nd rfl (Or.inl rfl))) (fun _ _ _ _ _ => pts_nil) (fun _ _ _ _ _ => (pe_call G_law_option (hr.mono (by omega)) (by rfl) T.m_law_option T.F_law_option.kp T.b_law_option .nil pass0 (pa_cons (pv 0) (pa_cons (pv 2) (pa_cons (pv 8) (pa_cons (pv 3) pa_nil)))))))
    (pss_cons (ps_set (i := 10) sc_law_arena.nd rfl (Or.inl rfl) (pe_tupRg rfl (by rfl) T.z_tuple (prg_2 (by rfl) T.z_range (pe_op op_mul (pe_un un_neg (pe_call G_law_take (hr.mono (by omega)) (by rfl) T.m_law_take T.F_law_take.kp T.b_law_take .nil pass0 (pa_cons (pv 0) (pa_cons pe_int pa_nil)))) (pe_callTy call_int1 (by rfl) T.z_int (by decide +kernel) (pa_cons (pe_cmpR op_ne (pv 3) pe_int (nomark _)) pa_nil))) (pv 2))))
    (pss_one (ps_asg (pe_op op_catA (pe_op op_catA (pe_ix ix_list (pv 4) (pv 8) (fun _ _ => rfl)) (pe_callTy call_tuple_of (by rfl) T.z_tuple (by decide +kernel) (pa_cons (pv 9) pa_nil))) (pe_tup (pa_cons (pv 10) pa_nil))) (pg_sub (pv 4) (pv 8) set_list))))))
    pss_nil)
    (pss_one (ps_ret (pe_callTy call_tuple_of (by rfl) T.z_tuple (by decide +kernel) (pa_cons (pv 4) pa_nil))))))))), ?_⟩
  refine ⟨_, rfl, _, rfl, _, _, rfl, rfl, d, _, rfl, hD, by omega, fun n H1 g1 n0 n1 => ?_⟩
  have n45 : n ≤ 45 := by
    have : n < most + 1 := n1
    omega
  refine ⟨_, rfl, d, 5, rfl, g1.dr, by decide, fun sh H2 g2 _ _ => ?_⟩
  have g12 := g1.trans g2
  refine ⟨Nat.zero_le _, fun p hp => ?_⟩
  have hpd := new_ne g12.dr hp
  have hp0 := g12.free hp
  obtain ⟨H3, e3, s3, k3⟩ := newH hp (.lst [])
  rw [e3]
  have g13 := g12.trans (.same g12.dr s3)
  refine ⟨_, rfl, n, rfl, by omega, by omega, for_range (lo := 0) (n := n.toNat) (fun (j : Nat) (σ : L2.St) (H' : Hp) => ∃ (xs : List V) (A' : Ar) (y5 y6 : Option V), σ = [some (.ref d), some (.int most), some (.int n), some (.int sh), some (.ref p), y5, y6, none, none, none, none] ∧ Go d H H' ∧ H' p = some (.lst xs) ∧ Each (PosIn H') A' xs ∧ A'.length = j ∧ ∀ os ∈ A', os.length ≤ 3 ∧ PosG n os) ?_ ?_ ?_⟩
  · exact ⟨[], [], none, none, rfl, g13, k3, .nil, rfl, fun os h => nomatch h⟩
  · rintro j σ H4 hj ⟨xs, A', y5, y6, rfl, g4, e4, hxs, hA, hG⟩
    have hn0 : 0 < n := by omega
    have hk1 : (0 : Int) + (j : Int) < n := by omega
    have hk0 : (0 : Int) ≤ 0 + (j : Int) := by omega
    generalize hk : (0 : Int) + (j : Int) = k at hk0 hk1 ⊢
    refine ⟨Nat.le_of_ble_eq_true rfl, fun l5 hl5 => ?_⟩
    obtain ⟨H5, e5, s5, k5⟩ := newH hl5 (.lst [.int 0, .int 1, .int 1, .int 2, .int 2, .int 3])
    rw [e5]
    have ga := Go.same g4.dr s5
    refine ⟨_, rfl, d, 6, rfl, ga.dr, by decide, fun u H6 g6 u0 u1 => ?_⟩
    obtain ⟨mf, hmf, hmfm⟩ := atI_map (f := V.int) (xs := ([0, 1, 1, 2, 2, 3] : List Int)) u0 u1
    have hmf3 : 0 ≤ mf ∧ mf ≤ 3 := by
      simp only [List.mem_cons, List.not_mem_nil, or_false] at hmfm
      omega
    refine ⟨l5, _, _, _, rfl, rfl, sqd (g6.fr l5 _ (new_ne g4.dr hl5) k5), hmf, ?_⟩
    have g46 := ga.trans g6
    have e6 := g46.fr p _ hpd e4
    refine ⟨fun σ H' => ∃ m : Int, σ = [some (.ref d), some (.int most), some (.int n), some (.int sh), some (.ref p), some (.int k), some (.int m), none, none, none, none] ∧ H' = H6 ∧ 0 ≤ m ∧ m ≤ 3, ?_, ?_⟩
    · refine ⟨_, rfl, _, _, rfl, rfl, _, rfl, ?_⟩
      refine ite2 (fun z => ?_) (fun z => ⟨mf, rfl, rfl, hmf3.1, hmf3.2⟩)
      refine ⟨_, rfl, _, _, rfl, ?_⟩
      refine ⟨_, rfl, rfl, ?_, ?_⟩
      · show (0 : Int) ≤ (if mf > 1 then mf else 1)
        split <;> omega
      · show (if mf > 1 then mf else 1) ≤ (3 : Int)
        split <;> omega
    rintro σ H7 ⟨m, rfl, rfl, m0', m3⟩
    refine ⟨_, rfl, .inl ⟨rfl, _, sqd e6⟩, _, rfl, m, rfl, by omega, by omega, fun D hD' => ?_⟩
    have nDd := new_ne g46.dr hD'
    have s7 := same_new hD' (.lst [])
    refine lc_range (lo := 0) (n := m.toNat) (fun (i : Nat) (H' : Hp) => ∃ (zs : List V) (os : Pos'), Go d H7 H' ∧ H' D = some (.lst zs) ∧ Each (OptIn H') os zs ∧ os.length = i ∧ ∀ o ∈ os, OptG n o) ?_ ?_ ?_
    · exact ⟨[], [], .same g46.dr s7, upd_same, .nil, rfl, fun o h => nomatch h⟩
    · rintro i H' hi ⟨zs, os, gj, ej, hzs, hos, hoG⟩
      refine ⟨rfl, yes_if ?_⟩
      refine ⟨_, rfl, _, rfl, _, rfl, _, rfl, d, n, k, sh, rfl, gj.dr, hk0, hk1, n45, fun t o H8 g8 ht et og => ?_⟩
      have ej8 := g8.fr D _ nDd ej
      have ntD : t ≠ D := fun e => by
        rw [e, ej] at ht
        cases ht
      refine ⟨zs, ej8, big' (by have := hzs.1; omega), zs ++ [.ref t], os ++ [o], (gj.trans g8).put2 hD' nDd, upd_same, ?_, by rw [List.length_append, hos]; rfl, ?_⟩
      · refine (hzs.mono fun o x => OptIn.tp (tp_put (g8.tp gj.dr) ej8)).snoc ⟨t, rfl, ?_⟩
        rw [upd_ne ntD]
        exact et
      · intro o' ho'
        rcases List.mem_append.mp ho' with ho' | ho'
        · exact hoG o' ho'
        · rw [List.mem_singleton.mp ho']
          exact og
    · rintro H8 ⟨zs, os, gj, ej, hzs, hos, hoG⟩
      refine ⟨D, _, rfl, .inl ⟨sqd ej, fun t ht => ?_⟩⟩
      have st := same_new ht (.tup zs)
      have ejp := gj.fr p _ hpd e6
      have ept := st _ _ ejp
      have hxl := hxs.1
      have ntp : t ≠ p := fun e => by
        rw [e, ejp] at ht
        cases ht
      refine ⟨p, xs, _, rfl, rfl, ept, big' (by omega), ?_⟩
      have gall := (g4.trans g46).trans gj
      have tpx : Tp H4 (upd (upd H8 t (.tup zs)) p (.lst (xs ++ [.ref t]))) := tp_put (((g46.trans gj).tp g4.dr).trans (Tp.same st)) ept
      refine ⟨xs ++ [.ref t], A' ++ [os], _, _, rfl, (gall.trans (.same gall.dr st)).put2 hp0 hpd, upd_same, ?_, by rw [List.length_append, hA]; rfl, ?_⟩
      · refine (hxs.mono fun o x => PosIn.tp tpx).snoc ⟨t, zs, rfl, ?_, hzs.mono fun o x => OptIn.tp (tp_put (Tp.same st) ept)⟩
        rw [upd_ne ntp]
        exact upd_same
      · intro o ho
        rcases List.mem_append.mp ho with ho | ho
        · exact hG o ho
        · rw [List.mem_singleton.mp ho]
          exact ⟨by omega, by omega, hoG⟩
  · rintro σ H4 ⟨xs, A', y5, y6, rfl, g4, e4, hxs, hA, hG⟩
    refine ⟨fun σ H' => ∃ (xs : List V) (A' : Ar) (y5 y6 y8 y9 y10 : Option V), σ = [some (.ref d), some (.int most), some (.int n), some (.int sh), some (.ref p), y5, y6, none, y8, y9, y10] ∧ Go d H H' ∧ H' p = some (.lst xs) ∧ Each (PosIn H') A' xs ∧ A'.length = n.toNat ∧ ∀ os ∈ A', PosG n os, ?_, ?_⟩
    · refine ⟨_, rfl, _, _, rfl, rfl, _, rfl, ?_⟩
      refine ite2 (fun z => ?_) (fun z => iteF ⟨xs, A', _, _, _, _, _, rfl, g4, e4, hxs, hA, fun os h => (hG os h).2⟩)
      have hn0 : 0 < n := of_decide_eq_true z
      refine ⟨_, rfl, d, 8, rfl, g4.dr, by decide, fun u5 H9 g9 _ _ => ⟨rfl, _, rfl, ?_⟩⟩
      have e9 := g9.fr p _ hpd e4
      have hxs9 := hxs.mono fun o x => PosIn.tp (g9.tp g4.dr)
      have gg := g4.trans g9
      refine ite2 (fun z => ?_) (fun z => ⟨xs, A', _, _, _, _, _, rfl, gg, e9, hxs9, hA, fun os h => (hG os h).2⟩)
      refine ⟨_, rfl, _, rfl, d, n, rfl, g9.dr, hn0, fun at_ H10 g10 t0 t1 => ?_⟩
      refine ⟨_, rfl, d, 4, rfl, g10.dr, by decide, fun u H11 g11 u0 u1 => ⟨_, _, rfl, rfl, _, rfl, by omega, by omega, fun D hD' => ?_⟩⟩
      have nDd := new_ne g11.dr hD'
      have s11 := same_new hD' (.lst [])
      have g911 := g10.trans g11
      refine lc_range (lo := 0) (n := (4 + u).toNat) (fun (i : Nat) (H' : Hp) => ∃ (zs : List V) (os : Pos'), Go d H11 H' ∧ H' D = some (.lst zs) ∧ Each (OptIn H') os zs ∧ os.length = i ∧ ∀ o ∈ os, OptG n o) ?_ ?_ ?_
      · exact ⟨[], [], .same g11.dr s11, upd_same, .nil, rfl, fun o h => nomatch h⟩
      · rintro i H' hi ⟨zs, os, gj, ej, hzs, hos, hoG⟩
        refine ⟨rfl, yes_if ?_⟩
        refine ⟨_, rfl, _, rfl, _, rfl, _, rfl, d, n, at_, sh, rfl, gj.dr, t0, t1, n45, fun t o H8 g8 ht et og => ?_⟩
        have ej8 := g8.fr D _ nDd ej
        have ntD : t ≠ D := fun e => by
          rw [e, ej] at ht
          cases ht
        refine ⟨zs, ej8, big' (by have := hzs.1; omega), zs ++ [.ref t], os ++ [o], (gj.trans g8).put2 hD' nDd, upd_same, ?_, by rw [List.length_append, hos]; rfl, ?_⟩
        · refine (hzs.mono fun o x => OptIn.tp (tp_put (g8.tp gj.dr) ej8)).snoc ⟨t, rfl, ?_⟩
          rw [upd_ne ntD]
          exact et
        · intro o' ho'
          rcases List.mem_append.mp ho' with ho' | ho'
          · exact hoG o' ho'
          · rw [List.mem_singleton.mp ho']
            exact og
      · rintro H12 ⟨zs, os, gj, ej, hzs, hos, hoG⟩
        refine ⟨_, rfl, d, 2, rfl, gj.dr, by decide, fun v H13 g13' v0 v1 => ⟨_, rfl, _, rfl, rfl, .inr ⟨_, rfl, _, _, rfl, rfl, .inl ⟨by omega, by omega⟩, _, rfl, _, _, rfl, rfl, ?_⟩⟩⟩
        have low : -1 ≤ -v * (if (!decide (V.int sh = V.int 3)) = true then (1 : Int) else 0) ∧ -v * (if (!decide (V.int sh = V.int 3)) = true then (1 : Int) else 0) ≤ 0 := by
          split <;> omega
        generalize hlo : -v * (if (!decide (V.int sh = V.int 3)) = true then (1 : Int) else 0) = lo at low
        have hgoal : RgOk lo n := ⟨by omega, by omega, by omega, by omega, by omega⟩
        have og1 := rg_good low.1 low.2 hn0 (by omega)
        have er := rg_ints lo n
        generalize (List.range (n - lo).toNat).map (fun i : Nat => lo + (i : Int)) = o1 at og1 er
        refine ⟨hgoal, fun q1 hq1 => ?_⟩
        rw [er]
        obtain ⟨Ha, ea, sa, ka⟩ := newH hq1 (.tup (o1.map V.int))
        rw [ea]
        have gx := gj.trans g13'
        have g9a : Go d H9 Ha := (g911.trans gx).trans (.same gx.dr sa)
        have eap := g9a.fr p _ hpd e9
        have hxa := hxs9.mono fun o x => PosIn.tp (g9a.tp g9.dr)
        obtain ⟨os0, x0, hos0, hat, hin⟩ := hxa.atI t0 (by rw [hA]; omega)
        obtain ⟨b0, zs0, rfl, eb0, hzs0⟩ := hin
        have hG0 := hG os0 (List.mem_of_getElem? hos0)
        have eDa := sa _ _ (g13'.fr D _ nDd ej)
        have hza := hzs.mono fun o x => OptIn.tp ((g13'.tp gj.dr).trans (Tp.same sa))
        refine ⟨_, rfl, _, rfl, p, _, _, _, rfl, rfl, sqd eap, hat, _, rfl, D, _, rfl, .inl ⟨sqd eDa, fun t2 ht2 => ?_⟩⟩
        obtain ⟨He, ee, se, ke⟩ := newH ht2 (.tup zs)
        rw [ee]
        have l0 := hzs0.1
        have l1 := hzs.1
        refine catA_of (se _ _ eb0) ke (by have := hG0.1; omega) fun pc Hf sf ef => ?_
        refine ⟨_, rfl, Nat.le_of_ble_eq_true rfl, fun t3 ht3 => ?_⟩
        obtain ⟨Hg, eg, sg, kg⟩ := newH ht3 (.tup [.ref q1])
        rw [eg]
        refine catA_of (sg _ _ ef) kg (by rw [List.length_append, List.length_singleton]; have := hG0.1; omega) fun ps Hh sh' eh => ?_
        have sea := ((se.trans sf).trans sg).trans sh'
        have ehp := sea _ _ eap
        have nps : ps ≠ p := fun e => by
          rw [e, ehp] at eh
          cases eh
        refine ⟨_, rfl, _, rfl, p, _, _, _, rfl, rfl, ehp, ixN_in t0 (by rw [hxa.1, hA]; omega), ?_⟩
        have tpp : Tp Ha (upd Hh p (.lst (xs.set at_.toNat (.ref ps)))) := tp_put (Tp.same sea) ehp
        have hgg := gg.trans (g9a.trans (.same g9a.dr sea))
        refine ⟨xs.set at_.toNat (.ref ps), A'.set at_.toNat (os0 ++ os ++ [o1]), _, _, _, _, _, rfl, hgg.put2 hp0 hpd, upd_same, ?_, by rw [List.length_set]; exact hA, ?_⟩
        · refine (hxa.mono fun o x => PosIn.tp tpp).set _ ⟨ps, zs0 ++ zs ++ [.ref q1], rfl, ?_, ?_⟩
          · rw [upd_ne nps]
            exact eh
          · exact ((hzs0.app hza).snoc ⟨q1, rfl, ka⟩).mono fun o x => OptIn.tp tpp
        · intro o ho
          rcases List.mem_or_eq_of_mem_set ho with ho | rfl
          · exact (hG o ho).2
          · refine ⟨by rw [List.length_append, List.length_append, List.length_singleton]; have := hG0.1; omega, fun w hw => ?_⟩
            rcases List.mem_append.mp hw with hw | hw
            · rcases List.mem_append.mp hw with hw | hw
              · exact hG0.2.2 w hw
              · exact hoG w hw
            · rw [List.mem_singleton.mp hw]
              exact og1
    rintro σ H8 ⟨xs, A', y5, y6, y8, y9, y10, rfl, g8, e8, hxs, hA, hG⟩
    refine ⟨_, rfl, p, xs, rfl, .inl ⟨sqd e8, fun t ht => ?_⟩⟩
    have st := same_new ht (.tup xs)
    refine q _ A' _ (g8.trans (.same g8.dr st)) ⟨t, xs, rfl, upd_same, hxs.mono fun os x => PosIn.tp (.same st)⟩ ⟨by omega, fun os h => ?_⟩
    rw [show (A'.length : Int) = n by omega]
    exact hG os h
end
end NL

namespace NL
open PySem PySem.Spec PyProof.Rows L2
theorem okO_bad {n : Int} {o : Opt} (h : ascB (-1) n o = true → False) : okO n o = false := by
  unfold okO
  cases e : ascB (-1) n o with
  | true => exact (h e).elim
  | false => exact Bool.and_false _
theorem cut_take {xs : List V} {k : Nat} : cutV xs none (some (k : Int)) = xs.take k := by
  unfold cutV
  rw [HT.sIx_none, show HT.sIx xs.length xs.length (some (k : Int)) = min k xs.length from HT.sIx_nat _ _ _, List.drop_zero, Nat.sub_zero]
  by_cases h : k ≤ xs.length
  · rw [Nat.min_eq_left h]
  · rw [Nat.min_eq_right (by omega), List.take_length, List.take_of_length_le (by omega)]
theorem cut_drop {xs : List V} {k : Nat} : cutV xs (some (k : Int)) none = xs.drop k := by
  unfold cutV
  rw [HT.sIx_none, show HT.sIx xs.length 0 (some (k : Int)) = min k xs.length from HT.sIx_nat _ _ _]
  by_cases h : k ≤ xs.length
  · rw [Nat.min_eq_left h, List.take_of_length_le (by rw [List.length_drop]; exact Nat.le_refl _)]
  · rw [Nat.min_eq_right (by omega), Nat.sub_self, List.take_zero, List.drop_eq_nil_of_le (by omega)]
theorem two_of {ns : List Int} {x y : Int} (hx : x ∈ ns) (hy : y ∈ ns) (h : x ≠ y) : 2 ≤ ns.length := by
  match ns, hx, hy with
  | [], hx, _ => cases hx
  | [a], hx, hy => exact absurd ((List.mem_singleton.mp hx).trans (List.mem_singleton.mp hy).symm) h
  | _ :: _ :: _, _, _ => exact Nat.le_add_left _ _
theorem asc_at {ns : List Int} (h : ns.Pairwise (· < ·)) {k : Nat} {x y : Int} (hx : ns[k]? = some x) (hy : ns[k + 1]? = some y) : x < y := by
  obtain ⟨h1, e1⟩ := List.getElem?_eq_some_iff.mp hx
  obtain ⟨h2, e2⟩ := List.getElem?_eq_some_iff.mp hy
  rw [← e1, ← e2]
  exact List.pairwise_iff_getElem.mp h k (k + 1) h1 h2 (Nat.lt_succ_self k)
section
variable {P : Program} {w : World} {K : PySem.W.Frag} {mg : Str → Option Value} {base : Heap}
/-! ### _law_disorder -/
def spDisorder : Sp := fun vs H Q _ => ∃ (d : Addr) (n : Int), vs = [.ref d, .int n] ∧ Dr H d ∧ 0 < n ∧ n ≤ 46 ∧ ∀ p o H', Go d H H' → H p = none → H' p = some (.tup (o.map V.int)) → okO n o = false → Q (.ref p) H'
/-! ### _law_wrong_option -/
def spWrong (K : PySem.W.Frag) : Sp := fun vs H Q _ => ∃ (d sc : Addr) (ns : List Int) (n : Int), vs = [.ref d, .ref sc, .int n] ∧ Keep K d H sc (ns.map V.int) ∧ Dr H d ∧ 0 < n ∧ n ≤ 46 ∧ ∀ p o H', Go d H H' → H p = none → H' p = some (.tup (o.map V.int)) → okO n o = false → Q (.ref p) H'
end
end NL

namespace NL
open PySem PySem.Spec PyProof.Rows L2 L2H HotX
/-! ### goals -/
inductive Gl' where
  | pl (come : Bool) (o : List Int)
  | co (o : List Int)
  | ta (gs : Pos')
def Gl'.kind : Gl' → Str
  | .pl c _ => if c then "come" else "stay"
  | .co _ => "colours"
  | .ta _ => "tank"
def ToldIn (H : Hp) : Gl' → V → Prop
  | .pl _ o, v => OptIn H o v
  | .co o, v => OptIn H o v
  | .ta gs, v => PosIn H gs v
def GoalIn (H : Hp) (g : Gl') (v : V) : Prop := ∃ b x, v = .ref b ∧ H b = some (.tup [.str g.kind, x]) ∧ ToldIn H g x
theorem ToldIn.tp {H H' : Hp} {g : Gl'} {v : V} (t : Tp H H') (h : ToldIn H g v) : ToldIn H' g v := by
  cases g with
  | pl c o => exact OptIn.tp t h
  | co o => exact OptIn.tp t h
  | ta gs => exact PosIn.tp t h
theorem GoalIn.tp {H H' : Hp} {g : Gl'} {v : V} (t : Tp H H') (h : GoalIn H g v) : GoalIn H' g v := by
  obtain ⟨b, x, e, e1, e2⟩ := h
  exact ⟨b, x, e, t _ _ e1, e2.tp t⟩
def lensB (gs A : Pos') : List Bool := List.zipWith (fun (r : Opt) (os : Opt) => !decide (V.int (r.length : Int) = V.int (os.length : Int))) gs A
def sizes (A : Ar) : List Nat := A.map (·.length)
def badRows : List Opt → Ar → List Bool
  | r :: gs, os :: A => (!decide (V.int (r.length : Int) = V.int (os.length : Int))) :: badRows gs A
  | _, _ => []
def okG (A : Ar) : Gl' → Bool
  | .pl _ o => ascB 0 A.length o
  | .co o => decide (o.length = A.length) && !(o.map fun c => decide (c < 0)).any id
  | .ta gs => decide (gs.length = A.length) && !(badRows gs A).any id
theorem badRows_take : ∀ {gs : List Opt} {A : Ar} {j : Nat} {r : Opt} {os : Pos'}, gs[j]? = some r → A[j]? = some os → badRows (gs.take (j + 1)) (A.take (j + 1)) = badRows (gs.take j) (A.take j) ++ [!decide (V.int (r.length : Int) = V.int (os.length : Int))]
  | [], _, j, _, _, h, _ => by simp at h
  | _ :: _, [], j, _, _, _, h => by simp at h
  | g :: gs, a :: A, 0, r, os, h1, h2 => by
    cases h1
    cases h2
    simp [badRows]
  | g :: gs, a :: A, j + 1, r, os, h1, h2 => by
    rw [List.take_succ_cons, List.take_succ_cons, List.take_succ_cons, List.take_succ_cons, badRows, badRows, badRows_take (gs := gs) (A := A) (j := j) h1 h2]
    rfl
theorem badRows_len : ∀ {gs : List Opt} {A : Ar}, gs.length = A.length → (badRows gs A).length = A.length
  | [], [], _ => rfl
  | [], _ :: _, h => by cases h
  | _ :: _, [], h => by cases h
  | _ :: gs, _ :: A, h => by
    rw [badRows, List.length_cons, badRows_len (Nat.succ.inj h), List.length_cons]
theorem in_pl (c : Bool) : (if false = true then !inV (V.str (if c then "come" else "stay")) [V.str "stay", V.str "come"] else inV (V.str (if c then "come" else "stay")) [V.str "stay", V.str "come"]) = true := by
  cases c <;> decide +kernel
theorem in_co : (if false = true then !inV (V.str "colours") [V.str "stay", V.str "come"] else inV (V.str "colours") [V.str "stay", V.str "come"]) = false := by decide +kernel
theorem in_ta : (if false = true then !inV (V.str "tank") [V.str "stay", V.str "come"] else inV (V.str "tank") [V.str "stay", V.str "come"]) = false := by decide +kernel
theorem eq_co : decide (V.str "colours" = V.str ("colours" : Str)) = true := by decide +kernel
theorem eq_ta : decide (V.str "tank" = V.str ("colours" : Str)) = false := by decide +kernel
theorem ne_len {m n : Nat} (h : m ≠ n) : decide (V.int (m : Int) = V.int (n : Int)) = false := decide_eq_false fun e => h (by have := V.int.inj e; omega)
/-- a comprehension over zip of two tuples -/
theorem lc_pairs {K : PySem.W.Frag} {a b : Addr} {xs ys : List V} {g : TG} {tt : TT} {te : TE} {vs : List Nat} {σ : L2.St} {H1 : Hp} {D : Addr} {Qd : Hp → Prop} (n : Nat) (hn : n = min xs.length ys.length) (Pv : Nat → Hp → Prop) (h0 : Pv 0 (upd H1 D (.lst []))) (hq : ∀ i H, Pv i H → SqT K H a xs ∧ SqT K H b ys)
    (hs : ∀ (i : Nat) (x y : V) (t : Addr) (H : Hp), xs[i]? = some x → ys[i]? = some y → Pv i H → H t = none → g (.ref t) (wipe σ vs) (upd H t (.tup [x, y])) fun σ2 H2 => wipe σ2 vs = wipe σ vs ∧ tt σ2 H2 fun c H3 =>
      if c = true then te σ2 H3 fun z H4 => ∃ acc, H4 D = some (.lst acc) ∧ acc.length < sizeLine ∧ Pv (i + 1) (upd H4 D (.lst (acc ++ [z]))) else Pv (i + 1) H3) (hd : ∀ H, Pv n H → Qd H) :
    ∃ W : Nat → Nat → Hp → Prop, (∃ m, W 0 m (upd H1 D (.lst []))) ∧ ∀ i m H, W i m H →
      ((RZ.ItzT K a b).stop i H ∧ Qd H) ∨ ((RZ.ItzT K a b).go i H ∧ ∃ Nx : Hp → Prop, (∀ H', Nx H' → ∃ m', m' < m ∧ W (i + 1) m' H') ∧ ∀ x H', (RZ.ItzT K a b).yld i H x H' → g x (wipe σ vs) H' fun σ2 H2 => wipe σ2 vs = wipe σ vs ∧ tt σ2 H2 fun c H3 =>
        if c = true then te σ2 H3 fun z H4 => ∃ acc, H4 D = some (.lst acc) ∧ acc.length < sizeLine ∧ Nx (upd H4 D (.lst (acc ++ [z]))) else Nx H3) := by
  refine ⟨fun i m H => m + i = n ∧ Pv i H, ⟨n, rfl, h0⟩, ?_⟩
  rintro i m H ⟨hi, p⟩
  obtain ⟨qx, qy⟩ := hq i H p
  by_cases lt : i < n
  · have ex : xs[i]? = some xs[i] := List.getElem?_eq_getElem (by omega)
    have ey : ys[i]? = some ys[i] := List.getElem?_eq_getElem (by omega)
    refine .inr ⟨⟨xs, ys, _, _, qx, qy, ex, ey⟩, Pv (i + 1), fun H' p' => ⟨m - 1, by omega, by omega, p'⟩, fun v H' y => ?_⟩
    obtain ⟨t, x1, y1, rfl, ht, rfl, f1, f2⟩ := y
    exact hs i x1 y1 t H (f1 xs qx) (f2 ys qy) p ht
  · have e : i = n := by omega
    subst e
    exact .inl ⟨⟨xs, ys, qx, qy, by omega⟩, hd H p⟩
section
variable {P : Program} {w : World} {K : PySem.W.Frag} {mg : Str → Option Value} {base : Heap}
/-! ### check_goal -/
def Gl'.few : Gl' → Prop
  | .pl _ o => o.length ≤ 1000
  | .co o => o.length ≤ 1000
  | .ta gs => gs.length ≤ 1000
def spCheckGoal (D : Addr) : Sp := fun vs H Q E => ∃ (v u : V) (A : Ar) (g : Gl'), vs = [v, u] ∧ ArIn H A v ∧ A.length ≤ 1000 ∧ GoalIn H g u ∧ (okG A g = true → ∀ H', Same H H' → Q .non H') ∧ (okG A g = false → ∀ H', Same H H' → E (.ref D) none H')
theorem ok_check_goal (T : Txt K mg) (EX : Exs K mg) : FnOk P w K mg base (L2N.CX P w) 2 T.acheck_goal T.dcheck_goal Pcheck_goal (spCheckGoal EX.c_InvalidGoal) := by
  have Gis_ascending := ok_is_ascending (P := P) (w := w) (base := base) T
  refine okN T.Fcheck_goal sccheck_goal (fun vs H Q E h => ?_) (fun cdv A outer s H vs Q E hr h => ?_)
  · obtain ⟨v, u, A, g, rfl, _⟩ := h
    rfl
  obtain ⟨v, u, A0, g, rfl, ⟨b0, xs, rfl, e0, hxs⟩, hAl, ⟨b, x, rfl, eb, hx⟩, q, qE⟩ := h
  have hxl := hxs.1
  refine ⟨_, (pss_cons (ps_asg (pv 1) (pg_tup rfl (pgs_cons (pg_name (i := 2) sccheck_goal.nd rfl (Or.inl rfl)) (pgs_cons (pg_name (i := 3) sccheck_goal.nd rfl (Or.inl rfl)) pgs_nil))))
    (pss_one (ps_if (pt_cmpR op_in_seq (pv 2) (pe_tup (pa_cons pe_str (pa_cons pe_str pa_nil))) (by rfl))
    (pss_one (ps_if (pt_not (pt_val (pe_call Gis_ascending (hr.mono (by omega)) (by rfl) T.mis_ascending T.Fis_ascending.kp T.bis_ascending .nil pass0 (pa_cons (pv 3) (pa_cons pe_int (pa_cons (pe_callB call_len_seq (by rfl) T.z_len PySem.boot_len (pa_cons (pv 0) pa_nil)) pa_nil))))))
    (pss_one (L2N.ps_raise rfl (L2N.takes_of rfl rfl rfl rfl) (L2N.pmk_own PySem.F.excBase_ValueError EX.x EX.g_InvalidGoal EX.k (raises_own EX.b EX.t_InvalidGoal) rfl)))
    pss_nil))
    (pss_one (ps_if (pt_cmpR op_ne (pe_callB call_len_seq (by rfl) T.z_len PySem.boot_len (pa_cons (pv 3) pa_nil)) (pe_callB call_len_seq (by rfl) T.z_len PySem.boot_len (pa_cons (pv 0) pa_nil)) (nomark _))
    (pss_one (L2N.ps_raise rfl (L2N.takes_of rfl rfl rfl rfl) (L2N.pmk_own PySem.F.excBase_ValueError EX.x EX.g_InvalidGoal EX.k (raises_own EX.b EX.t_InvalidGoal) rfl)))
    (pss_one (ps_if (pt_cmpR op_eq (pv 2) pe_str (nomark _))
    (pss_one (ps_if (pt_val (pe_callB (cr_any rfl) (by rfl) T.z_any (by decide +kernel) (pa_cons (pe_lc (own := [("colour", 4)]) (g := (gName 4)) (tt := tYes) rfl sccheck_goal.nd (pi_tup (pv 3)) (blkOk_by (N := Ncheck_goal) (sc := defScope scheck_goal) (by decide +kernel)) (fun _ _ _ _ _ => (pg_name (i := 4) sccheck_goal.nd rfl (Or.inl rfl))) (fun _ _ _ _ _ => pts_nil) (fun _ _ _ _ _ => (pe_cmpR op_lt (pv 4) pe_int (nomark _)))) pa_nil)))
    (pss_one (L2N.ps_raise rfl (L2N.takes_of rfl rfl rfl rfl) (L2N.pmk_own PySem.F.excBase_ValueError EX.x EX.g_InvalidGoal EX.k (raises_own EX.b EX.t_InvalidGoal) rfl)))
    pss_nil))
    (pss_one (ps_if (pt_val (pe_callB (cr_any rfl) (by rfl) T.z_any (by decide +kernel) (pa_cons (pe_lc (own := [("row", 5), ("options", 6)]) (g := (gTup K 2 (gCons (gName 5) (gCons (gName 6) gNil)))) (tt := tYes) rfl sccheck_goal.nd (RZ.pi_zipA (by rfl) T.z_zip (pa_cons (pv 3) (pa_cons (pv 0) pa_nil))) (blkOk_by (N := Ncheck_goal) (sc := defScope scheck_goal) (by decide +kernel)) (fun _ _ _ _ _ => (pg_tup rfl (pgs_cons (pg_name (i := 5) sccheck_goal.nd rfl (Or.inl rfl)) (pgs_cons (pg_name (i := 6) sccheck_goal.nd rfl (Or.inl rfl)) pgs_nil)))) (fun _ _ _ _ _ => pts_nil) (fun _ _ _ _ _ => (pe_cmpR op_ne (pe_callB (call_len_seqK (K := K) rfl) (by rfl) T.z_len PySem.boot_len (pa_cons (pv 5) pa_nil)) (pe_callB (call_len_seqK (K := K) rfl) (by rfl) T.z_len PySem.boot_len (pa_cons (pv 6) pa_nil)) (nomark _)))) pa_nil)))
    (pss_one (L2N.ps_raise rfl (L2N.takes_of rfl rfl rfl rfl) (L2N.pmk_own PySem.F.excBase_ValueError EX.x EX.g_InvalidGoal EX.k (raises_own EX.b EX.t_InvalidGoal) rfl)))
    pss_nil))))))))), ?_⟩
  refine ⟨_, rfl, b, _, rfl, sqt eb, rfl, _, _, rfl, _, _, rfl, rfl, ?_⟩
  refine ⟨_, rfl, Nat.le_of_ble_eq_true rfl, fun tp htp => ?_⟩
  obtain ⟨H1, e1, s1, k1⟩ := newH htp (.tup [V.str "stay", V.str "come"])
  rw [show upd H tp (.tup [V.str "stay", V.str "come"]) = H1 from e1]
  have eA1 := s1 _ _ e0
  refine ⟨tp, _, rfl, .inr (sqt k1), rfl, by decide +kernel, _, rfl, ?_⟩
  cases g with
  | pl c o =>
    obtain ⟨bt, rfl, et⟩ := hx
    have et1 := s1 _ _ et
    refine ifT (in_pl c) ?_
    refine ⟨_, rfl, _, rfl, b0, _, rfl, .inr (sqt eA1), bt, o, 0, _, rfl, et1, _, rfl, ?_⟩
    rw [show ((xs.length : Nat) : Int) = (A0.length : Int) by rw [hxl]]
    cases hb : ascB 0 (A0.length : Int) o with
    | true => exact iteF (q hb _ s1)
    | false => exact iteT (qE hb _ s1)
  | co o =>
    obtain ⟨bt, rfl, et⟩ := hx
    have et1 := s1 _ _ et
    refine ifF in_co ?_
    refine ⟨_, rfl, bt, _, rfl, .inr (sqt et1), _, rfl, b0, _, rfl, .inr (sqt eA1), rfl, _, rfl, ?_⟩
    by_cases hl : o.length = A0.length
    case neg =>
      refine ifT (by rw [List.length_map, hxl, ne_len hl] <;> rfl) ?_
      exact qE (by show (decide (o.length = A0.length) && _) = false; rw [decide_eq_false hl, Bool.false_and]) _ s1
    refine ifF (by rw [List.length_map, hxl, hl, decide_eq_true rfl] <;> rfl) ?_
    refine ⟨_, rfl, rfl, _, rfl, ?_⟩
    refine ifT eq_co ?_
    refine ⟨_, rfl, bt, rfl, ⟨_, sqt et1⟩, fun D hD => ?_⟩
    refine lc_tup (K := K) (a := bt) (xs := o.map V.int) (fun (j : Nat) (H' : Hp) => Same H1 H' ∧ H' D = some (.lst (((o.take j).map fun c => decide (c < 0)).map V.bl))) ?_ ?_ ?_ ?_
    · exact ⟨same_new hD _, by rw [upd_same, List.take_zero]; rfl⟩
    · rintro j H' _ ⟨s2, _⟩
      exact sqt (s2 _ _ et1)
    · rintro j y H' hy ⟨s2, e2⟩
      rw [List.getElem?_map] at hy
      obtain ⟨c, hc, rfl⟩ := Option.map_eq_some_iff.mp hy
      have hj := (List.getElem?_eq_some_iff.mp hc).1
      refine ⟨rfl, yes_if ?_⟩
      refine ⟨_, rfl, _, _, rfl, rfl, _, e2, ?_, same_put s2 hD, ?_⟩
      · rw [List.length_map, List.length_map, List.length_take]
        exact big' (by omega)
      · rw [upd_same, List.take_add_one, hc, List.map_append, List.map_append]
        rfl
    · rintro H' ⟨s2, e2⟩
      rw [List.length_map, List.take_length] at e2
      refine ⟨D, _, rfl, sqd e2, _, rfl, ?_⟩
      have hg : okG A0 (.co o) = !(o.map fun c => decide (c < 0)).any id := by
        show (decide (o.length = A0.length) && _) = _
        rw [decide_eq_true hl, Bool.true_and]
      cases hb : (o.map fun c => decide (c < 0)).any id with
      | true =>
        rw [hb] at hg
        exact iteT (qE hg _ (s1.trans s2))
      | false =>
        rw [hb] at hg
        exact iteF (q hg _ (s1.trans s2))
  | ta gs =>
    obtain ⟨bt, zs, rfl, et, hzs⟩ := hx
    have et1 := s1 _ _ et
    have hzl := hzs.1
    refine ifF in_ta ?_
    refine ⟨_, rfl, bt, _, rfl, .inr (sqt et1), _, rfl, b0, _, rfl, .inr (sqt eA1), rfl, _, rfl, ?_⟩
    by_cases hl : gs.length = A0.length
    case neg =>
      refine ifT (by rw [hzl, hxl, ne_len hl] <;> rfl) ?_
      exact qE (by show (decide (gs.length = A0.length) && _) = false; rw [decide_eq_false hl, Bool.false_and]) _ s1
    refine ifF (by rw [hzl, hxl, hl, decide_eq_true rfl] <;> rfl) ?_
    refine ⟨_, rfl, rfl, _, rfl, ?_⟩
    refine ifF eq_ta ?_
    refine ⟨_, rfl, _, rfl, bt, b0, _, _, rfl, .inr ⟨sqt et1, sqt eA1, fun D hD => ?_⟩⟩
    refine lc_pairs (xs := zs) (ys := xs) A0.length (by rw [hzl, hxl, hl, Nat.min_self]) (fun (j : Nat) (H' : Hp) => Same H1 H' ∧ H' D = some (.lst ((badRows (gs.take j) (A0.take j)).map V.bl))) ?_ ?_ ?_ ?_
    · exact ⟨same_new hD _, by rw [upd_same, List.take_zero]; rfl⟩
    · rintro j H' ⟨s2, _⟩
      exact ⟨sqt (s2 _ _ et1), sqt (s2 _ _ eA1)⟩
    · rintro j y1 y2 t H' hy1 hy2 ⟨s2, e2⟩ ht
      have hj1 : j < gs.length := by
        rw [← hzl]
        exact (List.getElem?_eq_some_iff.mp hy1).1
      have hj2 : j < A0.length := by omega
      have hg1 := List.getElem?_eq_getElem hj1
      have hg2 := List.getElem?_eq_getElem hj2
      generalize gs[j] = r at hg1
      generalize A0[j] = os at hg2
      obtain ⟨br, rfl, er⟩ := hzs.2 j r y1 hg1 hy1
      obtain ⟨bo, ws, rfl, eo, hws⟩ := hxs.2 j os y2 hg2 hy2
      have st := same_new ht (.tup [V.ref br, V.ref bo])
      have s3 := (s1.trans s2).trans st
      have e3 := st _ _ e2
      refine ⟨t, _, rfl, sqt upd_same, rfl, _, _, rfl, _, _, rfl, rfl, rfl, yes_if ?_⟩
      refine ⟨_, rfl, br, _, rfl, .inr (sqt (s3 _ _ er)), _, rfl, bo, _, rfl, .inr (sqt (s3 _ _ eo)), rfl, _, e3, ?_, same_put (s2.trans st) hD, ?_⟩
      · rw [List.length_map]
        have : (badRows (gs.take j) (A0.take j)).length = (A0.take j).length := badRows_len (by rw [List.length_take, List.length_take]; omega)
        rw [this, List.length_take]
        exact big' (by omega)
      · rw [upd_same, badRows_take hg1 hg2, List.map_append, List.length_map, hws.1]
        rfl
    · rintro H' ⟨s2, e2⟩
      rw [List.take_of_length_le (by omega), List.take_length] at e2
      refine ⟨D, _, rfl, sqd e2, _, rfl, ?_⟩
      have hg : okG A0 (.ta gs) = !(badRows gs A0).any id := by
        show (decide (gs.length = A0.length) && _) = _
        rw [decide_eq_true hl, Bool.true_and]
      cases hb : (badRows gs A0).any id with
      | true =>
        rw [hb] at hg
        exact iteT (qE hg _ (s1.trans s2))
      | false =>
        rw [hb] at hg
        exact iteF (q hg _ (s1.trans s2))
/-! ### _law_checked -/
def spChecked : Sp := fun vs H Q _ => ∃ (v u : V) (A : Ar) (g : Gl'), vs = [v, u] ∧ ArIn H A v ∧ A.length ≤ 1000 ∧ GoalIn H g u ∧ (okG A g = true → ∀ H', Same H H' → Q (.bl true) H') ∧ (okG A g = false → ∀ p H', Same H H' → H' p = some (.lst (theBs.map V.bl)) → Q (.ref p) H')
theorem ok_law_checked (T : Txt K mg) (EX : Exs K mg) : FnOk P w K mg base CX0 4 T.a_law_checked T.d_law_checked P_law_checked spChecked := by
  have Gcheck_goal := ok_check_goal (P := P) (w := w) (base := base) T EX
  have G_law_class := ok_law_class (P := P) (w := w) (base := base) T EX
  refine T.F_law_checked.ok sc_law_checked (fun vs H Q E h => ?_) (fun cdv A outer s H vs Q E hr h => ?_)
  · obtain ⟨v, u, A, g, rfl, _⟩ := h
    rfl
  obtain ⟨v, u, A0, g, rfl, hA, hAl, hg, q, qE⟩ := h
  refine ⟨_, (pss_cons (L2N.ps_try_as (X := (cxOf CX0 P w K mg base N_law_checked "_law_checked" (defScope s_law_checked) T.a_law_checked cdv A outer s H E).nox) (i := 3) rfl rfl sc_law_checked.nd rfl rfl ⟨rfl, by decide, .inl EX.g_ControlError⟩ takesN0 (fun W pn xe tk po => (pss_one (ps_set (i := 2) sc_law_checked.nd rfl (Or.inl rfl) (pe_callS Gcheck_goal (hr.mono (by omega)) (by rfl) T.mcheck_goal T.Fcheck_goal.kp T.bcheck_goal (fun σ => L2N.passAt tk σ) (pa_cons (pv 0) (pa_cons (pv 1) pa_nil)))))) (fun a oe cls d pn hz hf => by exact (pss_cons (ps_if (pt_not (pt_val (pe_callB (call_isQ (K := K) rfl EX.ec List.mem_cons_self hz hf) (by rfl) T.z_isinstance (by decide +kernel) (pa_cons (pv 3) (pa_cons (pe_bltn (v := .ty "ValueError") (u := .type "ValueError") (by rfl) T.z_ValueError (by decide +kernel) rfl) pa_nil)))))
    (pss_one (ps_ret (pe_lst pa_nil)))
    pss_nil)
    (pss_one (ps_ret (by exact pe_callE2 (X := (cxOf CX0 P w K mg base N_law_checked "_law_checked" (defScope s_law_checked) T.a_law_checked cdv A outer s H E).nox.suite a ((a, oe) :: pn)) (a := a) (oe := oe) (cls := cls) (d := d) G_law_class (roomH_mark (j := 1) hr (by decide)) (by exact zn_hot2 hz hf rfl) (by exact List.mem_cons_self) hz.zc (by rfl) T.m_law_class T.F_law_class.kp T.b_law_class (E := fun _ _ _ _ => False) passE0 (pa_cons (pv 3) pa_nil)))))))
    (pss_one (ps_ret (pe_cmpR op_isN (pv 2) pe_non (nomark _))))), ?_⟩
  have ex := exm_ref' (cls := .ref EX.c_InvalidGoal) EX.bC EX.i_ControlError EX.t_ControlError EX.s_ControlError
  refine ⟨_, rfl, _, rfl, v, u, A0, g, rfl, hA, hAl, hg, fun hv H2 s2 => ?_, fun hv H2 s2 => ?_⟩
  · exact ⟨_, rfl, rfl, boolE (decide_eq_true rfl) (q hv H2 s2)⟩
  · refine ⟨true, ex, fun _ a ha => ?_, fun h => nomatch h⟩
    refine ⟨_, rfl, rfl, rfl, .ty "ValueError", .type "ValueError", true, rfl, (fun u r => r), kit_val EX.sV, true, rfl, iteF ?_⟩
    exact ⟨_, rfl, rfl, rfl, rfl, fun p H3 s3 e3 => qE hv p H3 (s2.trans s3) e3⟩
end
end NL

namespace NL
open PySem PySem.Spec PyProof.Rows L2
theorem slA_of {K : PySem.W.Frag} {a : Addr} {xs : List V} {lo hi : Option Int} {H : Hp} {Q : VK} (ha : H a = some (.tup xs)) (q : ∀ p H', Same H H' → H' p = some (.tup (cutV xs lo hi)) → Q (.ref p) H') : rSlA K (.ref a) lo hi H Q := by
  refine ⟨a, xs, rfl, sqt ha, fun h => ?_, fun _ p hp => q p _ (same_new hp _) upd_same⟩
  refine q a H (Same.refl H) ?_
  have : cutV xs lo hi = xs := by
    unfold cutV
    rw [h.1, h.2, List.drop_zero, Nat.sub_zero]
    exact List.take_length
  rw [this]
  exact ha
structure PlG (n : Int) (o : List Int) : Prop where
  mem : ∀ s ∈ o, 0 ≤ s ∧ s < n
  asc : o.Pairwise (· < ·)
  len : o.length ≤ 60
section
variable {P : Program} {w : World} {K : PySem.W.Frag} {mg : Str → Option Value} {base : Heap}
/-! ### _law_places -/
def spPlaces : Sp := fun vs H Q _ => ∃ (d : Addr) (v : V) (A : Ar), vs = [.ref d, v] ∧ Dr H d ∧ ArIn H A v ∧ A.length ≤ 46 ∧ ∀ (p : Addr) (o : List Int) (H' : Hp), Go d H H' → H' p = some (.tup (o.map V.int)) → PlG A.length o → Q (.ref p) H'
theorem ok_law_places (T : Txt K mg) : FnOk P w K mg base CX0 2 T.a_law_places T.d_law_places P_law_places spPlaces := by
  have G_law_take := ok_law_take (P := P) (w := w) (base := base) T
  refine T.F_law_places.ok sc_law_places (fun vs H Q E h => ?_) (fun cdv A outer s H vs Q E hr h => ?_)
  · obtain ⟨d, v, A, rfl, _⟩ := h
    rfl
  obtain ⟨d, v, A0, rfl, hD, ⟨b0, xs, rfl, e0, hxs⟩, h46, q⟩ := h
  have hxl := hxs.1
  refine ⟨_, (pss_one (ps_ret (pe_callTy call_tuple_of (by rfl) T.z_tuple (by decide +kernel) (pa_cons (pe_lc (own := [("k", 2)]) (g := (gName 2)) (tt := _) rfl sc_law_places.nd (pi_range1 (by rfl) T.z_range (pa_cons (pe_callB call_len_seq (by rfl) T.z_len PySem.boot_len (pa_cons (pv 1) pa_nil)) pa_nil)) (blkOk_by (N := N_law_places) (sc := defScope s_law_places) (by decide +kernel)) (fun _ _ _ _ _ => (pg_name (i := 2) sc_law_places.nd rfl (Or.inl rfl))) (fun _ _ _ _ _ => (pts_one (pt_cmpR op_eq (pe_call G_law_take (hr.mono (by omega)) (by rfl) T.m_law_take T.F_law_take.kp T.b_law_take .nil pass0 (pa_cons (pv 0) (pa_cons pe_int pa_nil))) pe_int (nomark _)))) (fun _ _ _ _ _ => (pv 2))) pa_nil)))), ?_⟩
  refine ⟨_, rfl, b0, _, rfl, .inr (sqt e0), _, rfl, by omega, by omega, fun D hD' => ?_⟩
  have nDd := new_ne hD hD'
  have s1 := same_new hD' (.lst [])
  refine lc_range (lo := 0) (n := ((xs.length : Nat) : Int).toNat) (fun (i : Nat) (H' : Hp) => ∃ o : List Int, Go d H H' ∧ H' D = some (.lst (o.map V.int)) ∧ o.Pairwise (· < ·) ∧ (∀ s ∈ o, 0 ≤ s ∧ s < (i : Int)) ∧ o.length ≤ i) ?_ ?_ ?_
  · exact ⟨[], .same hD s1, upd_same, .nil, fun s h => (nomatch h), Nat.le_refl 0⟩
  · rintro i H' hi ⟨o, g1, e1, hasc, hmem, hlen⟩
    refine ⟨rfl, ?_⟩
    refine ⟨_, rfl, d, 2, rfl, g1.dr, by decide, fun u H2 g2 _ _ => ⟨rfl, _, rfl, ?_⟩⟩
    have e2 := g2.fr D _ nDd e1
    refine ite2 (fun z => ?_) (fun z => ⟨o, g1.trans g2, e2, hasc, fun s hs => ⟨(hmem s hs).1, by have := (hmem s hs).2; omega⟩, by omega⟩)
    refine ⟨_, rfl, _, e2, big' (by rw [List.length_map]; omega), o ++ [0 + (i : Int)], (g1.trans g2).put2 hD' nDd, by rw [upd_same, List.map_append]; rfl, ?_, fun s hs => ?_, by rw [List.length_append]; exact Nat.add_le_add_right hlen 1⟩
    · refine List.pairwise_append.mpr ⟨hasc, List.pairwise_singleton _ _, fun a ha b hb => ?_⟩
      rw [List.mem_singleton.mp hb]
      have := (hmem a ha).2
      omega
    · rcases List.mem_append.mp hs with hs | hs
      · have := hmem s hs
        omega
      · rw [List.mem_singleton.mp hs]
        omega
  · rintro H2 ⟨o, g1, e1, hasc, hmem, hlen⟩
    refine ⟨D, _, rfl, .inl ⟨sqd e1, fun t ht => ?_⟩⟩
    exact q t o _ (g1.trans (Go.new g1.dr ht)) upd_same ⟨fun s hs => by have := hmem s hs; omega, hasc, by omega⟩
/-! ### _law_colours -/
def spColours : Sp := fun vs H Q _ => ∃ (d : Addr) (v : V) (A : Ar), vs = [.ref d, v] ∧ Dr H d ∧ ArIn H A v ∧ A.length ≤ 46 ∧ ∀ (p : Addr) (o : List Int) (H' : Hp), Go d H H' → H' p = some (.tup (o.map V.int)) → o.length = A.length → (∀ c ∈ o, (0 : Int) ≤ c) → Q (.ref p) H'
theorem ok_law_colours (T : Txt K mg) : FnOk P w K mg base CX0 2 T.a_law_colours T.d_law_colours P_law_colours spColours := by
  have G_law_take := ok_law_take (P := P) (w := w) (base := base) T
  refine T.F_law_colours.ok sc_law_colours (fun vs H Q E h => ?_) (fun cdv A outer s H vs Q E hr h => ?_)
  · obtain ⟨d, v, A, rfl, _⟩ := h
    rfl
  obtain ⟨d, v, A0, rfl, hD, ⟨b0, xs, rfl, e0, hxs⟩, h46, q⟩ := h
  have hxl := hxs.1
  refine ⟨_, (pss_cons (ps_set (i := 2) sc_law_colours.nd rfl (Or.inr rfl) (pe_ix ix_list (pe_lst (pa_cons pe_int (pa_cons pe_int (pa_cons pe_int (pa_cons pe_int (pa_cons pe_int (pa_cons pe_int (pa_cons pe_int pa_nil)))))))) (pe_call G_law_take (hr.mono (by omega)) (by rfl) T.m_law_take T.F_law_take.kp T.b_law_take .nil pass0 (pa_cons (pv 0) (pa_cons pe_int pa_nil))) (fun _ _ => rfl)))
    (pss_cons (ps_set (i := 3) sc_law_colours.nd rfl (Or.inr rfl) (pe_ix ix_list (pe_lst (pa_cons pe_int (pa_cons pe_int (pa_cons pe_int (pa_cons pe_int (pa_cons pe_int (pa_cons pe_int pa_nil))))))) (pe_call G_law_take (hr.mono (by omega)) (by rfl) T.m_law_take T.F_law_take.kp T.b_law_take .nil pass0 (pa_cons (pv 0) (pa_cons pe_int pa_nil))) (fun _ _ => rfl)))
    (C8.pss_cut (ps_if (pt_cmpR op_eq (pv 2) pe_int (nomark _))
    (pss_cons (ps_set (i := 3) sc_law_colours.nd rfl (Or.inr rfl) pe_int)
    (pss_one (ps_set (i := 2) sc_law_colours.nd rfl (Or.inr rfl) (pe_ix ix_list (pe_lst (pa_cons pe_int (pa_cons pe_int pa_nil))) (pe_callTy call_int1 (by rfl) T.z_int (by decide +kernel) (pa_cons (pe_cmpR op_gt (pe_callB call_len_seq (by rfl) T.z_len PySem.boot_len (pa_cons (pv 1) pa_nil)) pe_int (nomark _)) pa_nil)) (fun _ _ => rfl)))))
    pss_nil)
    (pss_cons (ps_set (i := 4) sc_law_colours.nd rfl (Or.inr rfl) (pe_op op_mul (pe_ix ix_list (pe_lst (pa_cons pe_int (pa_cons pe_int (pa_cons pe_int (pa_cons pe_int pa_nil))))) (pe_call G_law_take (hr.mono (by omega)) (by rfl) T.m_law_take T.F_law_take.kp T.b_law_take .nil pass0 (pa_cons (pv 0) (pa_cons pe_int pa_nil))) (fun _ _ => rfl)) (pe_callTy call_int1 (by rfl) T.z_int (by decide +kernel) (pa_cons (pe_cmpR op_lt (pv 3) pe_int (nomark _)) pa_nil))))
    (pss_one (ps_ret (pe_callTy call_tuple_of (by rfl) T.z_tuple (by decide +kernel) (pa_cons (pe_lc (own := [("options", 5)]) (g := (gName 5)) (tt := tYes) rfl sc_law_colours.nd (pi_tup (pv 1)) (blkOk_by (N := N_law_colours) (sc := defScope s_law_colours) (by decide +kernel)) (fun _ _ _ _ _ => (pg_name (i := 5) sc_law_colours.nd rfl (Or.inl rfl))) (fun _ _ _ _ _ => pts_nil) (fun _ _ _ _ _ => (pe_op op_add (pe_op op_mul (pe_call G_law_take (hr.mono (by omega)) (by rfl) T.m_law_take T.F_law_take.kp T.b_law_take .nil pass0 (pa_cons (pv 0) (pa_cons (pv 2) pa_nil))) (pv 3)) (pv 4)))) pa_nil)))))))), ?_⟩
  refine ⟨Nat.le_of_ble_eq_true rfl, fun l1 hl1 => ?_⟩
  have g1 := Go.new (o := .lst [.int 2, .int 3, .int 3, .int 4, .int 5, .int 6, .int 12]) hD hl1
  refine ⟨_, rfl, d, 7, rfl, g1.dr, by decide, fun u1 H1 g2 a1 a2 => ?_⟩
  obtain ⟨m, hm, hmm⟩ := atI_map (f := V.int) (xs := ([2, 3, 3, 4, 5, 6, 12] : List Int)) a1 a2
  have hm2 : 2 ≤ m ∧ m ≤ 12 := by
    simp only [List.mem_cons, List.not_mem_nil, or_false] at hmm
    omega
  refine ⟨l1, _, _, _, rfl, rfl, sqd (g2.fr l1 _ (new_ne hD hl1) upd_same), hm, ?_⟩
  have g12 := g1.trans g2
  refine ⟨Nat.le_of_ble_eq_true rfl, fun l2 hl2 => ?_⟩
  have g3 := Go.new (o := .lst [.int 1, .int 1, .int 1, .int 1, .int 3, .int 4]) g12.dr hl2
  refine ⟨_, rfl, d, 6, rfl, g3.dr, by decide, fun u2 H2 g4 b1 b2 => ?_⟩
  obtain ⟨f, hf, hff⟩ := atI_map (f := V.int) (xs := ([1, 1, 1, 1, 3, 4] : List Int)) b1 b2
  have hf4 : 1 ≤ f ∧ f ≤ 4 := by
    simp only [List.mem_cons, List.not_mem_nil, or_false] at hff
    omega
  refine ⟨l2, _, _, _, rfl, rfl, sqd (g4.fr l2 _ (new_ne g12.dr hl2) upd_same), hf, ?_⟩
  have g14 := (g12.trans g3).trans g4
  have e4 := g14.tp hD _ _ e0
  refine ⟨fun σ H' => ∃ m f : Int, σ = [some (.ref d), some (.ref b0), some (.int m), some (.int f), none, none] ∧ Go d H H' ∧ 2 ≤ m ∧ m ≤ 12 ∧ 1 ≤ f ∧ f ≤ 4, ?_, ?_⟩
  · refine ⟨_, rfl, rfl, _, rfl, ?_⟩
    refine ite2 (fun z => ?_) (fun z => ⟨m, f, rfl, g14, hm2.1, hm2.2, hf4.1, hf4.2⟩)
    refine ⟨Nat.le_of_ble_eq_true rfl, fun l3 hl3 => ?_⟩
    have g5 := Go.new (o := .lst [.int 12, .int 4]) g14.dr hl3
    have e5 := g5.tp g14.dr _ _ e4
    refine ⟨_, rfl, b0, _, rfl, .inr (sqt e5), _, _, rfl, rfl, .inr ⟨_, rfl, ?_⟩⟩
    cases hb : decide (((xs.length : Nat) : Int) > 5) with
    | true =>
      refine ⟨l3, _, _, _, rfl, rfl, sqd upd_same, (show atI [V.int 12, V.int 4] (if true = true then (1 : Int) else 0) = some (V.int 4) from atI1), ?_⟩
      exact ⟨4, 1, rfl, g14.trans g5, by decide, by decide, by decide, by decide⟩
    | false =>
      refine ⟨l3, _, _, _, rfl, rfl, sqd upd_same, (show atI [V.int 12, V.int 4] (if false = true then (1 : Int) else 0) = some (V.int 12) from atI0), ?_⟩
      exact ⟨12, 1, rfl, g14.trans g5, by decide, by decide, by decide, by decide⟩
  rintro σ H3 ⟨m, f, rfl, g13, m1, m2, f1, f2⟩
  refine ⟨Nat.le_of_ble_eq_true rfl, fun l4 hl4 => ?_⟩
  have g6 := Go.new (o := .lst [.int 0, .int 0, .int 1, .int 2]) g13.dr hl4
  refine ⟨_, rfl, d, 4, rfl, g6.dr, by decide, fun u3 H4 g7 c1 c2 => ?_⟩
  obtain ⟨pl, hp, hpp⟩ := atI_map (f := V.int) (xs := ([0, 0, 1, 2] : List Int)) c1 c2
  have hp2 : 0 ≤ pl ∧ pl ≤ 2 := by
    simp only [List.mem_cons, List.not_mem_nil, or_false] at hpp
    omega
  refine ⟨l4, _, _, _, rfl, rfl, sqd (g7.fr l4 _ (new_ne g13.dr hl4) upd_same), hp, ?_⟩
  refine ⟨_, rfl, _, _, rfl, rfl, .inr ⟨_, rfl, _, _, rfl, rfl, .inl ⟨by omega, by omega⟩, ?_⟩⟩
  have hplus : 0 ≤ pl * (if decide (f < 4) = true then (1 : Int) else 0) := by
    split <;> omega
  obtain ⟨plus, hpl⟩ : ∃ z : Int, z = pl * (if decide (f < 4) = true then (1 : Int) else 0) := ⟨_, rfl⟩
  rw [← hpl] at hplus
  have g17 := (g13.trans g6).trans g7
  have e7 := g17.tp hD _ _ e0
  refine ⟨_, rfl, b0, rfl, ⟨_, sqt e7⟩, fun D hD' => ?_⟩
  have nDd := new_ne g17.dr hD'
  have s1 := same_new hD' (.lst [])
  refine lc_tup (K := K) (a := b0) (xs := xs) (fun (i : Nat) (H' : Hp) => ∃ o : List Int, Go d H H' ∧ H' D = some (.lst (o.map V.int)) ∧ o.length = i ∧ ∀ c ∈ o, 0 ≤ c) ?_ ?_ ?_ ?_
  · exact ⟨[], g17.trans (.same g17.dr s1), upd_same, rfl, fun s h => nomatch h⟩
  · rintro i H' _ ⟨o, g8, _⟩
    exact sqt (g8.tp hD _ _ e0)
  · rintro i x H' hx ⟨o, g8, e8, hlen, hmem⟩
    have hi := (List.getElem?_eq_some_iff.mp hx).1
    refine ⟨rfl, yes_if ?_⟩
    refine ⟨_, rfl, _, rfl, d, m, rfl, g8.dr, by omega, fun y H5 g9 y0 y1 => ?_⟩
    have e9 := g9.fr D _ nDd e8
    have hD0 : H D = none := g17.free hD'
    refine ⟨_, rfl, _, _, rfl, rfl, .inl ⟨by omega, by omega⟩, _, rfl, _, _, rfl, rfl, _, e9, big' (by rw [List.length_map]; omega), o ++ [y * f + plus], (g8.trans g9).put2 hD0 nDd, ?_, by rw [List.length_append, hlen]; rfl, fun c hc => ?_⟩
    · rw [upd_same, List.map_append, hpl]
      rfl
    · rcases List.mem_append.mp hc with hc | hc
      · exact hmem c hc
      · rw [List.mem_singleton.mp hc]
        have := Int.mul_nonneg y0 (show 0 ≤ f by omega)
        omega
  · rintro H5 ⟨o, g8, e8, hlen, hmem⟩
    refine ⟨D, _, rfl, .inl ⟨sqd e8, fun t ht => ?_⟩⟩
    exact q t o _ (g8.trans (Go.new g8.dr ht)) upd_same (by omega) hmem
end
end NL

namespace NL
open PySem PySem.Spec PyProof.Rows L2
theorem catI {K : PySem.W.Frag} {a b : Addr} {l m : List Int} {H : Hp} {Q : VK} (ha : H a = some (.tup (l.map V.int))) (hb : H b = some (.tup (m.map V.int))) (hl : l.length + m.length ≤ 1000) (q : ∀ p H', Same H H' → H' p = some (.tup ((l ++ m).map V.int)) → Q (.ref p) H') : rCatA K (.ref a) (.ref b) H Q :=
  catA_of ha hb (by rw [List.length_map, List.length_map]; exact hl) fun p H' s e => q p H' s (by rw [e, List.map_append])
theorem slI {K : PySem.W.Frag} {a : Addr} {l : List Int} {lo hi : Option Int} {m : List Int} (hc : cutV (l.map V.int) lo hi = m.map V.int) {H : Hp} {Q : VK} (ha : H a = some (.tup (l.map V.int))) (q : ∀ p H', Same H H' → H' p = some (.tup (m.map V.int)) → Q (.ref p) H') : rSlA K (.ref a) lo hi H Q :=
  slA_of ha fun p H' s e => q p H' s (by rw [e, hc])
theorem cutT {l : List Int} {k : Nat} {i : Int} (h : i = (k : Int)) : cutV (l.map V.int) none (some i) = (l.take k).map V.int := by
  rw [h, cut_take, List.map_take]
theorem cutD {l : List Int} {k : Nat} {i : Int} (h : i = (k : Int)) : cutV (l.map V.int) (some i) none = (l.drop k).map V.int := by
  rw [h, cut_drop, List.map_drop]
theorem asc_last {low n : Int} {o : List Int} {z : Int} (ho : o ≠ []) (h : ascB low n (o ++ [z]) = true) : ∃ y ∈ o, y < z := by
  have e := List.dropLast_concat_getLast ho
  rw [← e, List.append_assoc] at h
  exact ⟨o.getLast ho, List.getLast_mem ho, asc_pair h⟩
theorem head_le {o : List Int} (h : o.Pairwise (· < ·)) {x : Int} (hx : o[0]? = some x) : ∀ y ∈ o, x ≤ y := by
  cases o with
  | nil => simp at hx
  | cons a r =>
    cases hx
    intro y hy
    rcases List.mem_cons.mp hy with rfl | hy
    · exact Int.le_refl _
    · have := (List.pairwise_cons.mp h).1 y hy
      omega
section
variable {P : Program} {w : World} {K : PySem.W.Frag} {mg : Str → Option Value} {base : Heap}
/-! ### _law_wrong_places -/
def spWrongPl (K : PySem.W.Frag) : Sp := fun vs H Q _ => ∃ (d sc bp : Addr) (ns : List Int) (v : V) (A : Ar) (o : List Int), vs = [.ref d, .ref sc, v, .ref bp] ∧ Keep K d H sc (ns.map V.int) ∧ Dr H d ∧ ArIn H A v ∧ H bp = some (.tup (o.map V.int)) ∧ PlG A.length o ∧
  ∀ (p : Addr) (o' : List Int) (H' : Hp), Go d H H' → H' p = some (.tup (o'.map V.int)) → ascB 0 A.length o' = false → Q (.ref p) H'
theorem ok_law_wrong_places (T : Txt K mg) : FnOk P w K mg base CX0 3 T.a_law_wrong_places T.d_law_wrong_places P_law_wrong_places (spWrongPl K) := by
  have G_law_take := ok_law_take (P := P) (w := w) (base := base) T
  have G_law_cell := ok_law_cell (P := P) (w := w) (base := base) T
  refine T.F_law_wrong_places.ok sc_law_wrong_places (fun vs H Q E h => ?_) (fun cdv A outer s H vs Q E hr h => ?_)
  · obtain ⟨d, sc, bp, ns, v, A, o, rfl, _⟩ := h
    rfl
  obtain ⟨d, sc, bp, ns, v, A0, o, rfl, hk, hD, ⟨b0, xs, rfl, e0, hxs⟩, hb, hG, q⟩ := h
  have hxl := hxs.1
  have hol := hG.len
  refine ⟨_, (pss_cons (ps_set (i := 4) sc_law_wrong_places.nd rfl (Or.inl rfl) (pe_call G_law_take (hr.mono (by omega)) (by rfl) T.m_law_take T.F_law_take.kp T.b_law_take .nil pass0 (pa_cons (pv 0) (pa_cons pe_int pa_nil))))
    (pss_cons (ps_set (i := 5) sc_law_wrong_places.nd rfl (Or.inl rfl) (pe_call G_law_take (hr.mono (by omega)) (by rfl) T.m_law_take T.F_law_take.kp T.b_law_take .nil pass0 (pa_cons (pv 0) (pa_cons pe_int pa_nil))))
    (C8.pss_cut (ps_if (pt_cmpR op_eq (pe_call G_law_take (hr.mono (by omega)) (by rfl) T.m_law_take T.F_law_take.kp T.b_law_take .nil pass0 (pa_cons (pv 0) (pa_cons pe_int pa_nil))) pe_int (nomark _))
    (pss_one (ps_set (i := 5) sc_law_wrong_places.nd rfl (Or.inl rfl) (pe_callB (call_abs) (by rfl) T.z_abs (by decide +kernel) (pa_cons (pe_call G_law_cell (hr.mono (by omega)) (by rfl) T.m_law_cell T.F_law_cell.kp T.b_law_cell .nil pass0 (pa_cons (pv 1) (pa_cons (pv 0) pa_nil))) pa_nil))))
    pss_nil)
    (pss_cons (ps_set (i := 6) sc_law_wrong_places.nd rfl (Or.inl rfl) (pe_op op_add pe_int (pe_call G_law_take (hr.mono (by omega)) (by rfl) T.m_law_take T.F_law_take.kp T.b_law_take .nil pass0 (pa_cons (pv 0) (pa_cons (pe_callB (call_max2 rfl) (by rfl) T.z_max (by decide +kernel) (pa_cons pe_int (pa_cons (pe_callB call_len_seq (by rfl) T.z_len PySem.boot_len (pa_cons (pv 3) pa_nil)) pa_nil))) pa_nil)))))
    (pss_cons (ps_if (pt_cmpR op_eq (pv 4) pe_int (nomark _))
    (pss_one (ps_ret (pe_op op_catA (pe_tup (pa_cons (pe_op op_sub (pe_un un_neg pe_int) (pv 5)) pa_nil)) (pv 3))))
    pss_nil)
    (pss_cons (ps_if (PW.pt (pw_or (pt_cmpR op_eq (pv 4) pe_int (nomark _)) (pw_or1 (pt_cmpR op_eq (pe_callB call_len_seq (by rfl) T.z_len PySem.boot_len (pa_cons (pv 3) pa_nil)) pe_int (nomark _)))))
    (pss_one (ps_ret (pe_op op_catA (pv 3) (pe_tup (pa_cons (pe_op op_add (pe_callB call_len_seq (by rfl) T.z_len PySem.boot_len (pa_cons (pv 2) pa_nil)) (pv 5)) pa_nil)))))
    pss_nil)
    (pss_cons (ps_if (pt_cmpR op_eq (pv 4) pe_int (nomark _))
    (pss_one (ps_ret (pe_op op_catA (pe_slice sl_tupA (pv 3) po_none (po_some (pv 6))) (pe_slice sl_tupA (pv 3) (po_some (pe_op op_sub (pv 6) pe_int)) po_none))))
    pss_nil)
    (pss_cons (ps_if (PW.pt (pw_and (pt_cmpR op_eq (pv 4) pe_int (nomark _)) (pw_and1 (pt_cmpR op_lt (pv 6) (pe_callB call_len_seq (by rfl) T.z_len PySem.boot_len (pa_cons (pv 3) pa_nil)) (nomark _)))))
    (pss_one (ps_ret (pe_op op_catA (pe_op op_catA (pe_slice sl_tupA (pv 3) po_none (po_some (pe_op op_sub (pv 6) pe_int))) (pe_tup (pa_cons (pe_ix ix_tup (pv 3) (pv 6) (fun _ _ => rfl)) (pa_cons (pe_ix ix_tup (pv 3) (pe_op op_sub (pv 6) pe_int) (fun _ _ => rfl)) pa_nil)))) (pe_slice sl_tupA (pv 3) (po_some (pe_op op_add (pv 6) pe_int)) po_none))))
    pss_nil)
    (pss_one (ps_ret (pe_op op_catA (pv 3) (pe_tup (pa_cons (pe_op op_add (pe_op op_sub (pe_ix ix_tup (pv 3) pe_int (fun _ _ => rfl)) pe_int) (pe_callTy call_int1 (by rfl) T.z_int (by decide +kernel) (pa_cons (pe_cmpR op_eq (pe_ix ix_tup (pv 3) pe_int (fun _ _ => rfl)) pe_int (nomark _)) pa_nil))) pa_nil))))))))))))), ?_⟩
  refine ⟨_, rfl, d, 5, rfl, hD, by decide, fun kd H1 g1 kd0 kd1 => ?_⟩
  refine ⟨_, rfl, d, 5, rfl, g1.dr, by decide, fun far H3 g3 f0 f1 => ?_⟩
  have g13 := g1.trans g3
  refine ⟨fun σ H' => ∃ far : Int, σ = [some (.ref d), some (.ref sc), some (.ref b0), some (.ref bp), some (.int kd), some (.int far), none] ∧ Go d H H' ∧ 0 ≤ far, ?_, ?_⟩
  · refine ⟨_, rfl, d, 4, rfl, g3.dr, by decide, fun u H4 g4 _ _ => ⟨rfl, _, rfl, ?_⟩⟩
    refine ite2 (fun z => ?_) (fun z => ⟨far, rfl, g13.trans g4, f0⟩)
    refine ⟨_, rfl, _, rfl, sc, d, ns, rfl, (hk.go g13).go g4, g4.dr, fun r H5 g5 _ => ⟨_, rfl, ?_⟩⟩
    exact ⟨_, rfl, (g13.trans g4).trans g5, by omega⟩
  rintro σ H5 ⟨far, rfl, g5, f0⟩
  have eb5 := g5.tp hD _ _ hb
  have mx : (0 : Int) < (if ((((o.map V.int).length : Nat) : Int)) > 1 then (((o.map V.int).length : Nat) : Int) else 1) := by
    split <;> omega
  refine ⟨_, rfl, _, rfl, bp, _, rfl, .inr (sqt eb5), _, _, rfl, d, _, rfl, g5.dr, mx, fun u H6 g6 u0 u1 => ⟨_, _, rfl, rfl, ?_⟩⟩
  have u1' : u < (if ((((o.map V.int).length : Nat) : Int)) > 1 then (((o.map V.int).length : Nat) : Int) else 1) := u1
  rw [List.length_map] at u1'
  have g56 := g5.trans g6
  have eb := g6.tp g5.dr _ _ eb5
  have eA := g56.tp hD _ _ e0
  have gs : ∀ {H'}, Same H6 H' → Go d H H' := fun s => g56.trans (.same g6.dr s)
  -- a position below 0
  refine ⟨_, rfl, rfl, _, rfl, ?_⟩
  refine ite2 (fun z => ?_) (fun z0 => ?_)
  · refine ⟨_, rfl, _, rfl, _, _, rfl, rfl, Nat.le_of_ble_eq_true rfl, fun t ht => ?_⟩
    have st := same_new ht (.tup [V.int (-1 - far)])
    refine ⟨_, rfl, catI (l := [-1 - far]) upd_same (st _ _ eb) (by rw [List.length_singleton]; omega) fun p H7 s7 e7 => q p _ H7 (gs (st.trans s7)) e7 ?_⟩
    cases h : ascB 0 (A0.length : Int) ([-1 - far] ++ o) with
    | false => rfl
    | true =>
      have := asc_low h (-1 - far) (by simp)
      omega
  -- one that is too far
  have far1 : ∀ {H' : Hp} {t : Addr}, Same H6 H' → H' t = none → rCatA K (.ref bp) (.ref t) (upd H' t (.tup [V.int ((xs.length : Nat) + far)])) Q := fun {H'} {t} s' ht => by
    have st := s'.trans (same_new ht (.tup [V.int ((xs.length : Nat) + far)]))
    refine catI (m := [((xs.length : Nat) : Int) + far]) (st _ _ eb) upd_same (by rw [List.length_singleton]; omega) fun p H7 s7 e7 => q p _ H7 (gs (st.trans s7)) e7 ?_
    cases h : ascB 0 (A0.length : Int) (o ++ [((xs.length : Nat) : Int) + far]) with
    | false => rfl
    | true =>
      have := asc_low h (((xs.length : Nat) : Int) + far) (by simp)
      omega
  refine ⟨_, rfl, rfl, _, rfl, ?_⟩
  refine ite2 (fun z => iteT ⟨_, rfl, _, rfl, b0, _, rfl, .inr (sqt eA), _, rfl, _, _, rfl, rfl, Nat.le_of_ble_eq_true rfl, fun t ht => far1 (Same.refl H6) ht⟩) (fun z1 => ?_)
  refine ⟨_, rfl, bp, _, rfl, .inr (sqt eb), rfl, _, rfl, ?_⟩
  refine ite2 (fun z => ⟨_, rfl, _, rfl, b0, _, rfl, .inr (sqt eA), _, rfl, _, _, rfl, rfl, Nat.le_of_ble_eq_true rfl, fun t ht => far1 (Same.refl H6) ht⟩) (fun z2 => ?_)
  have hne : o.length ≠ 0 := fun e => by
    have := int_ne z2
    rw [List.length_map, e] at this
    exact this rfl
  have ho : o ≠ [] := fun e => hne (by rw [e]; rfl)
  obtain ⟨k, hk'⟩ : ∃ k : Nat, (1 : Int) + u = ((k + 1 : Nat) : Int) := ⟨u.toNat, by omega⟩
  have hkl : k < o.length := by
    split at u1' <;> omega
  have hx : o[k]? = some o[k] := List.getElem?_eq_getElem hkl
  have hkx := List.drop_eq_getElem_cons hkl
  have htk : o.take (k + 1) = o.take k ++ [o[k]] := by rw [List.take_add_one, hx]; rfl
  generalize o[k] = x at hx hkx htk
  -- twice
  refine ⟨_, rfl, rfl, _, rfl, ?_⟩
  refine ite2 (fun z => ?_) (fun z3 => ?_)
  · refine ⟨_, rfl, _, rfl, _, rfl, ?_⟩
    refine slI (cutT hk') eb fun p1 H7 s7 e7 => ?_
    refine ⟨_, rfl, _, rfl, _, _, rfl, rfl, _, rfl, ?_⟩
    unfold tNoPart
    refine slI (cutD (k := k) (by omega)) (s7 _ _ eb) fun p2 H8 s8 e8 => ?_
    refine catI (s8 _ _ e7) e8 (by rw [List.length_take, List.length_drop]; omega) fun p3 H9 s9 e9 => q p3 _ H9 (gs ((s7.trans s8).trans s9)) e9 ?_
    cases h : ascB 0 (A0.length : Int) (o.take (k + 1) ++ o.drop k) with
    | false => rfl
    | true =>
      rw [htk, hkx, List.append_assoc] at h
      have := asc_pair h
      omega
  -- two exchanged
  have low : rCatA K (.ref bp) (.ref bp) H6 (fun _ _ => True) → True := fun _ => trivial
  have x0 : ∃ y0, o[0]? = some y0 := ⟨o[0]'(by omega), List.getElem?_eq_getElem (by omega)⟩
  obtain ⟨y0, hy0⟩ := x0
  have aty0 : atI (o.map V.int) 0 = some (V.int y0) := atI_nat (j := 0) (by rw [List.getElem?_map, hy0]; rfl)
  have fin : ∀ (c : Bool), c = decide (y0 = 0) → ascB 0 (A0.length : Int) (o ++ [y0 - 1 + (if c = true then 1 else 0)]) = false := fun c hc => by
    cases h : ascB 0 (A0.length : Int) (o ++ [y0 - 1 + (if c = true then 1 else 0)]) with
    | false => rfl
    | true =>
      obtain ⟨y, hy, hlt⟩ := asc_last ho h
      have := head_le hG.asc hy0 y hy
      split at hlt <;> omega
  have last : ∀ {Q' : VK}, (∀ p o' H', Same H6 H' → H' p = some (.tup (List.map V.int o')) → ascB 0 (A0.length : Int) o' = false → Q' (.ref p) H') → ∀ t, H6 t = none → rCatA K (.ref bp) (.ref t) (upd H6 t (.tup [V.int (y0 - 1 + (if decide (V.int y0 = V.int 0) = true then 1 else 0))])) Q' := fun {Q'} hq t ht => by
    have st := same_new ht (.tup [V.int (y0 - 1 + (if decide (V.int y0 = V.int 0) = true then 1 else 0))])
    refine catI (m := [y0 - 1 + (if decide (V.int y0 = V.int 0) = true then 1 else 0)]) (st _ _ eb) upd_same (by rw [List.length_singleton]; omega) fun p H7 s7 e7 => hq p _ H7 (st.trans s7) e7 (fin _ (decide_eq_decide.mpr ⟨V.int.inj, fun h => by rw [h]⟩))
  refine ⟨_, rfl, rfl, _, rfl, ?_⟩
  refine ite2 (fun z => ?_) (fun z4 => ?_)
  · refine ⟨_, rfl, _, rfl, bp, _, rfl, .inr (sqt eb), _, _, rfl, rfl, _, rfl, ?_⟩
    refine ite2 (fun z => ?_) (fun z5 => ?_)
    · have hk1 : (1 : Int) + u < ((o.map V.int).length : Nat) := of_decide_eq_true z
      rw [List.length_map] at hk1
      have hy : o[k + 1]? = some (o[k + 1]'(by omega)) := List.getElem?_eq_getElem (by omega)
      generalize o[k + 1]'(by omega) = y at hy
      have hlt := asc_at hG.asc hx hy
      have atx : atI (o.map V.int) ((1 : Int) + u - 1) = some (V.int x) := by
        rw [show (1 : Int) + u - 1 = (k : Int) by omega]
        exact atI_nat (by rw [List.getElem?_map, hx]; rfl)
      have aty : atI (o.map V.int) ((1 : Int) + u) = some (V.int y) := by
        rw [hk']
        exact atI_nat (by rw [List.getElem?_map, hy]; rfl)
      refine ⟨_, rfl, _, rfl, _, _, rfl, rfl, _, rfl, ?_⟩
      refine slI (cutT (k := k) (by omega)) eb fun p1 H7 s7 e7 => ?_
      refine ⟨_, rfl, _, rfl, bp, _, _, _, rfl, rfl, sqt (s7 _ _ eb), aty, _, rfl, _, rfl, _, _, rfl, rfl, bp, _, _, _, rfl, rfl, sqt (s7 _ _ eb), atx, Nat.le_of_ble_eq_true rfl, fun t ht => ?_⟩
      obtain ⟨H8, e8, s8, k8⟩ := newH ht (.tup ([y, x].map V.int))
      rw [show upd H7 t (.tup [V.int y, V.int x]) = H8 from e8]
      refine catI (s8 _ _ e7) k8 (by rw [List.length_take]; show _ + 2 ≤ _; omega) fun p2 H9 s9 e9 => ?_
      have s79 := (s7.trans s8).trans s9
      refine ⟨_, rfl, _, rfl, _, _, rfl, rfl, _, rfl, ?_⟩
      unfold tNoPart
      refine slI (cutD (k := k + 2) (by omega)) (s79 _ _ eb) fun p3 Ha sa ea => ?_
      refine catI (sa _ _ e9) ea (by rw [List.length_append, List.length_take, List.length_drop]; show _ + 2 + _ ≤ _; omega) fun p4 Hb sb ebb => q p4 _ Hb (gs ((s79.trans sa).trans sb)) ebb ?_
      cases h : ascB 0 (A0.length : Int) (o.take k ++ [y, x] ++ o.drop (k + 2)) with
      | false => rfl
      | true =>
        rw [List.append_assoc] at h
        have := asc_pair h
        omega
    · exact ⟨_, rfl, _, rfl, bp, _, _, _, rfl, rfl, sqt eb, aty0, _, _, rfl, rfl, _, rfl, bp, _, _, _, rfl, rfl, sqt eb, aty0, rfl, .inr ⟨_, rfl, _, _, rfl, rfl, Nat.le_of_ble_eq_true rfl, fun t ht => last (fun p o' H' s' e' hb' => q p o' H' (gs s') e' hb') t ht⟩⟩
  · exact iteF ⟨_, rfl, _, rfl, bp, _, _, _, rfl, rfl, sqt eb, aty0, _, _, rfl, rfl, _, rfl, bp, _, _, _, rfl, rfl, sqt eb, aty0, rfl, .inr ⟨_, rfl, _, _, rfl, rfl, Nat.le_of_ble_eq_true rfl, fun t ht => last (fun p o' H' s' e' hb' => q p o' H' (gs s') e' hb') t ht⟩⟩
/-! ### _law_wrong_colours -/
def spWrongCo : Sp := fun vs H Q _ => ∃ (d bp : Addr) (o : List Int), vs = [.ref d, .ref bp] ∧ Dr H d ∧ H bp = some (.tup (o.map V.int)) ∧ o.length ≤ 46 ∧ (∀ c ∈ o, 0 ≤ c) ∧
  ∀ (p : Addr) (o' : List Int) (H' : Hp), Go d H H' → H' p = some (.tup (o'.map V.int)) → (o'.length ≠ o.length ∨ ∃ c ∈ o', c < 0) → Q (.ref p) H'
theorem ok_law_wrong_colours (T : Txt K mg) : FnOk P w K mg base CX0 2 T.a_law_wrong_colours T.d_law_wrong_colours P_law_wrong_colours spWrongCo := by
  have G_law_take := ok_law_take (P := P) (w := w) (base := base) T
  refine T.F_law_wrong_colours.ok sc_law_wrong_colours (fun vs H Q E h => ?_) (fun cdv A outer s H vs Q E hr h => ?_)
  · obtain ⟨d, bp, o, rfl, _⟩ := h
    rfl
  obtain ⟨d, bp, o, rfl, hD, hb, hol, hpos, q⟩ := h
  refine ⟨_, (pss_cons (ps_set (i := 2) sc_law_wrong_colours.nd rfl (Or.inl rfl) (pe_call G_law_take (hr.mono (by omega)) (by rfl) T.m_law_take T.F_law_take.kp T.b_law_take .nil pass0 (pa_cons (pv 0) (pa_cons pe_int pa_nil))))
    (pss_cons (ps_set (i := 3) sc_law_wrong_colours.nd rfl (Or.inl rfl) (pe_call G_law_take (hr.mono (by omega)) (by rfl) T.m_law_take T.F_law_take.kp T.b_law_take .nil pass0 (pa_cons (pv 0) (pa_cons (pe_op op_add (pe_callB call_len_seq (by rfl) T.z_len PySem.boot_len (pa_cons (pv 1) pa_nil)) pe_int) pa_nil))))
    (pss_cons (ps_if (PW.pt (pw_and (pt_cmpR op_eq (pv 2) pe_int (nomark _)) (pw_and1 (pt_cmpR op_gt (pe_callB call_len_seq (by rfl) T.z_len PySem.boot_len (pa_cons (pv 1) pa_nil)) pe_int (nomark _)))))
    (pss_one (ps_ret (pe_op op_catA (pe_slice sl_tupA (pv 1) po_none (po_some (pe_callB (call_max2 rfl) (by rfl) T.z_max (by decide +kernel) (pa_cons pe_int (pa_cons (pe_op op_sub (pv 3) pe_int) pa_nil))))) (pe_slice sl_tupA (pv 1) (po_some (pe_callB (call_max2 rfl) (by rfl) T.z_max (by decide +kernel) (pa_cons pe_int (pa_cons (pv 3) pa_nil)))) po_none))))
    pss_nil)
    (pss_cons (ps_if (PW.pt (pw_and (pt_cmpR op_eq (pv 2) pe_int (nomark _)) (pw_and1 (pt_cmpR op_lt (pv 3) (pe_callB call_len_seq (by rfl) T.z_len PySem.boot_len (pa_cons (pv 1) pa_nil)) (nomark _)))))
    (pss_one (ps_ret (pe_op op_catA (pe_op op_catA (pe_slice sl_tupA (pv 1) po_none (po_some (pv 3))) (pe_tup (pa_cons (pe_op op_sub (pe_un un_neg pe_int) (pe_ix ix_tup (pv 1) (pv 3) (fun _ _ => rfl))) pa_nil))) (pe_slice sl_tupA (pv 1) (po_some (pe_op op_add (pv 3) pe_int)) po_none))))
    pss_nil)
    (pss_one (ps_ret (pe_op op_catA (pe_op op_catA (pe_slice sl_tupA (pv 1) po_none (po_some (pv 3))) (pe_tup (pa_cons pe_int pa_nil))) (pe_slice sl_tupA (pv 1) (po_some (pv 3)) po_none)))))))), ?_⟩
  refine ⟨_, rfl, d, 3, rfl, hD, by decide, fun kd H1 g1 _ _ => ?_⟩
  have eb1 := g1.tp hD _ _ hb
  refine ⟨_, rfl, _, rfl, bp, _, rfl, .inr (sqt eb1), _, _, rfl, rfl, d, _, rfl, g1.dr, by omega, fun at_ H2 g2 t0 t1 => ?_⟩
  have g12 := g1.trans g2
  have eb := g2.tp g1.dr _ _ eb1
  have t1' : at_ < ((o.map V.int).length : Nat) + (1 : Int) := t1
  rw [List.length_map] at t1'
  obtain ⟨k, rfl⟩ : ∃ k : Nat, at_ = (k : Int) := ⟨at_.toNat, by omega⟩
  have gs : ∀ {H'}, Same H2 H' → Go d H H' := fun s => g12.trans (.same g2.dr s)
  refine' cutP ?f1 ?b1
  case f1 =>
    intro body
    refine ⟨_, rfl, rfl, _, rfl, ?_⟩
    refine ite2 (fun z => ?_) (fun z0 => iteF body)
    refine ⟨_, rfl, bp, _, rfl, .inr (sqt eb), _, _, rfl, rfl, _, rfl, ?_⟩
    refine ite2 (fun z1 => ?_) (fun z1 => body)
    have hlp : (0 : Int) < ((o.map V.int).length : Nat) := of_decide_eq_true z1
    rw [List.length_map] at hlp
    refine ⟨_, rfl, _, rfl, _, _, rfl, rfl, _, _, rfl, _, rfl, ?_⟩
    refine slI (cutT (k := k - 1) (by split <;> omega)) eb fun p1 H7 s7 e7 => ?_
    refine ⟨_, rfl, _, rfl, _, _, rfl, _, rfl, ?_⟩
    unfold tNoPart
    refine slI (cutD (k := max 1 k) (by split <;> omega)) (s7 _ _ eb) fun p2 H8 s8 e8 => ?_
    refine catI (s8 _ _ e7) e8 (by rw [List.length_take, List.length_drop]; omega) fun p3 H9 s9 e9 => q p3 _ H9 (gs ((s7.trans s8).trans s9)) e9 (.inl ?_)
    rw [List.length_append, List.length_take, List.length_drop]
    omega
  case b1 =>
    refine' cutP ?f2 ?b2
    case f2 =>
      intro body
      refine ⟨_, rfl, rfl, _, rfl, ?_⟩
      refine ite2 (fun z => ?_) (fun z0 => iteF body)
      refine ⟨_, rfl, _, rfl, bp, _, rfl, .inr (sqt eb), _, _, rfl, rfl, _, rfl, ?_⟩
      refine ite2 (fun z1 => ?_) (fun z1 => body)
      have hkl : (k : Int) < ((o.map V.int).length : Nat) := of_decide_eq_true z1
      rw [List.length_map] at hkl
      have hx : o[k]? = some (o[k]'(by omega)) := List.getElem?_eq_getElem (by omega)
      generalize o[k]'(by omega) = x at hx
      have x0 := hpos x (List.mem_of_getElem? hx)
      have atx : atI (o.map V.int) (k : Int) = some (V.int x) := atI_nat (by rw [List.getElem?_map, hx]; rfl)
      refine ⟨_, rfl, _, rfl, _, rfl, ?_⟩
      refine slI (cutT (k := k) rfl) eb fun p1 H7 s7 e7 => ?_
      refine ⟨_, rfl, _, rfl, _, rfl, bp, _, _, _, rfl, rfl, sqt (s7 _ _ eb), atx, _, _, rfl, rfl, Nat.le_of_ble_eq_true rfl, fun t ht => ?_⟩
      obtain ⟨H8, e8, s8, k8⟩ := newH ht (.tup ([-1 - x].map V.int))
      rw [show upd H7 t (.tup [V.int (-1 - x)]) = H8 from e8]
      refine catI (s8 _ _ e7) k8 (by rw [List.length_take]; show _ + 1 ≤ _; omega) fun p2 H9 s9 e9 => ?_
      have s79 := (s7.trans s8).trans s9
      refine ⟨_, rfl, _, rfl, _, _, rfl, rfl, _, rfl, ?_⟩
      unfold tNoPart
      refine slI (cutD (k := k + 1) (by omega)) (s79 _ _ eb) fun p3 Ha sa ea => ?_
      refine catI (sa _ _ e9) ea (by rw [List.length_append, List.length_take, List.length_drop]; show _ + 1 + _ ≤ _; omega) fun p4 Hb sb ebb => q p4 _ Hb (gs ((s79.trans sa).trans sb)) ebb (.inr ⟨-1 - x, by simp, by omega⟩)
    case b2 =>
      refine ⟨_, rfl, _, rfl, _, rfl, ?_⟩
      refine slI (cutT (k := k) rfl) eb fun p1 H7 s7 e7 => ?_
      refine ⟨Nat.le_of_ble_eq_true rfl, fun t ht => ?_⟩
      obtain ⟨H8, e8, s8, k8⟩ := newH ht (.tup ([1].map V.int))
      rw [show upd H7 t (.tup [V.int 1]) = H8 from e8]
      refine catI (s8 _ _ e7) k8 (by rw [List.length_take]; show _ + 1 ≤ _; omega) fun p2 H9 s9 e9 => ?_
      have s79 := (s7.trans s8).trans s9
      refine ⟨_, rfl, _, rfl, _, rfl, ?_⟩
      unfold tNoPart
      refine slI (cutD (k := k) rfl) (s79 _ _ eb) fun p3 Ha sa ea => ?_
      refine catI (sa _ _ e9) ea (by rw [List.length_append, List.length_take, List.length_drop]; show _ + 1 + _ ≤ _; omega) fun p4 Hb sb ebb => q p4 _ Hb (gs ((s79.trans sa).trans sb)) ebb (.inl ?_)
      rw [List.length_append, List.length_append, List.length_take, List.length_drop]
      show _ + 1 + _ ≠ _
      omega
end
end NL

namespace NL
open PySem PySem.Spec PyProof.Rows L2
def Differ (gs gs' : List Opt) : Prop := gs'.length ≠ gs.length ∨ ∃ (k : Nat) (r r' : Opt), gs[k]? = some r ∧ gs'[k]? = some r' ∧ r'.length ≠ r.length
structure GaG (gs : List Opt) : Prop where
  len : gs.length ≤ 46
  row : ∀ r ∈ gs, r.length ≤ 60
theorem cutTv {l : List V} {k : Nat} {i : Int} (h : i = (k : Int)) : cutV l none (some i) = l.take k := by
  rw [h, cut_take]
theorem cutDv {l : List V} {k : Nat} {i : Int} (h : i = (k : Int)) : cutV l (some i) none = l.drop k := by
  rw [h, cut_drop]
theorem next_ne {one n : Int} (h0 : 0 ≤ one) (h1 : one < n) (h2 : 2 ≤ n) : 0 ≤ (one + 1) % n ∧ (one + 1) % n < n ∧ (one + 1) % n ≠ one := by
  refine ⟨Int.emod_nonneg _ (by omega), Int.emod_lt_of_pos _ (by omega), fun e => ?_⟩
  by_cases h : one + 1 < n
  · rw [Int.emod_eq_of_lt (by omega) h] at e
    omega
  · have : one + 1 = n := by omega
    rw [this, Int.emod_self] at e
    omega
section
variable {P : Program} {w : World} {K : PySem.W.Frag} {mg : Str → Option Value} {base : Heap}
/-! ### _law_moved -/
def spMoved : Sp := fun vs H Q _ => ∃ (d : Addr) (v : V) (gs : List Opt), vs = [.ref d, v] ∧ Dr H d ∧ PosIn H gs v ∧ GaG gs ∧ ∀ (u : V) (gs' : List Opt) (H' : Hp), Go d H H' → PosIn H' gs' u → Differ gs gs' → Q u H'
theorem ok_law_moved (T : Txt K mg) : FnOk P w K mg base CX0 2 T.a_law_moved T.d_law_moved P_law_moved spMoved := by
  have G_law_take := ok_law_take (P := P) (w := w) (base := base) T
  refine T.F_law_moved.ok sc_law_moved (fun vs H Q E h => ?_) (fun cdv A outer s H vs Q E hr h => ?_)
  · obtain ⟨d, v, gs, rfl, _⟩ := h
    rfl
  obtain ⟨d, v, gs, rfl, hD, ⟨b, zs, rfl, e0, hzs⟩, hG, q⟩ := h
  have hzl := hzs.1
  have h46 := hG.len
  refine ⟨_, (pss_cons (ps_setLc (i := 2) (own := [("k", 3)]) (g := (gName 3)) (tt := _) rfl sc_law_moved.nd rfl rfl (sw_true rfl rfl rfl (by decide +kernel)) (pi_range1 (by rfl) T.z_range (pa_cons (pe_callB call_len_seq (by rfl) T.z_len PySem.boot_len (pa_cons (pv 1) pa_nil)) pa_nil)) (blkOk_by (N := N_law_moved) (sc := defScope s_law_moved) (by decide +kernel)) (fun _ _ _ _ _ => (pg_name (i := 3) sc_law_moved.nd rfl (Or.inl rfl))) (fun _ _ _ _ _ => (pts_one (pt_cmpR op_gt (pe_callB (call_len_seqK (K := K) rfl) (by rfl) T.z_len PySem.boot_len (pa_cons (pe_ix (ix_tupK (K := K) rfl) (pv 1) (pv 3) (fun _ _ => rfl)) pa_nil)) pe_int (nomark _)))) (fun _ _ _ _ _ => (pv 3)))
    (pss_cons (ps_if (PW.pt (pw_or (pt_cmpR op_eq (pe_callB call_len_seq (by rfl) T.z_len PySem.boot_len (pa_cons (pv 2) pa_nil)) pe_int (nomark _)) (pw_or1 (pt_cmpR op_lt (pe_callB call_len_seq (by rfl) T.z_len PySem.boot_len (pa_cons (pv 1) pa_nil)) pe_int (nomark _)))))
    (pss_one (ps_ret (pe_op op_catA (pv 1) (pe_tup (pa_cons (pe_tup (pa_cons pe_int pa_nil)) pa_nil)))))
    pss_nil)
    (pss_cons (ps_set (i := 4) sc_law_moved.nd rfl (Or.inl rfl) (pe_ix ix_list (pv 2) (pe_call G_law_take (hr.mono (by omega)) (by rfl) T.m_law_take T.F_law_take.kp T.b_law_take .nil pass0 (pa_cons (pv 0) (pa_cons (pe_callB call_len_seq (by rfl) T.z_len PySem.boot_len (pa_cons (pv 2) pa_nil)) pa_nil))) (fun _ _ => rfl)))
    (pss_cons (ps_set (i := 5) sc_law_moved.nd rfl (Or.inl rfl) (pe_op op_mod (pe_callTy call_int1 (by rfl) T.z_int (by decide +kernel) (pa_cons (pe_op op_add (pv 4) pe_int) pa_nil)) (pe_callB call_len_seq (by rfl) T.z_len PySem.boot_len (pa_cons (pv 1) pa_nil))))
    (pss_cons (ps_set (i := 6) sc_law_moved.nd rfl (Or.inl rfl) (pe_callTy call_list_of (by rfl) T.z_list (by decide +kernel) (pa_cons (pv 1) pa_nil)))
    (pss_cons (ps_asg (pe_op op_catA (pe_ix ix_list (pv 6) (pv 5) (fun _ _ => rfl)) (pe_slice sl_tupA (pe_ix ix_list (pv 6) (pv 4) (fun _ _ => rfl)) po_none (po_some pe_int))) (pg_sub (pv 6) (pv 5) set_list))
    (pss_cons (ps_asg (pe_slice sl_tupA (pe_ix ix_list (pv 6) (pv 4) (fun _ _ => rfl)) (po_some pe_int) po_none) (pg_sub (pv 6) (pv 4) set_list))
    (pss_one (ps_ret (pe_callTy call_tuple_of (by rfl) T.z_tuple (by decide +kernel) (pa_cons (pv 6) pa_nil))))))))))), ?_⟩
  refine ⟨_, rfl, b, _, rfl, .inr (sqt e0), _, rfl, by omega, by omega, fun D hD' => ?_⟩
  have nDd := new_ne hD hD'
  have s0 := same_new hD' (.lst [])
  refine lc_range (lo := 0) (n := ((zs.length : Nat) : Int).toNat) (fun (i : Nat) (H' : Hp) => ∃ fs : List Int, Same H H' ∧ H' D = some (.lst (fs.map V.int)) ∧ fs.length ≤ i ∧ ∀ s ∈ fs, 0 ≤ s ∧ s < (i : Int) ∧ ∃ r, gs[s.toNat]? = some r ∧ 0 < r.length) ?_ ?_ ?_
  · exact ⟨[], s0, upd_same, Nat.le_refl 0, fun s h => nomatch h⟩
  · rintro i H' hi ⟨fs, s1, e1, hlen, hmem⟩
    have hig : i < gs.length := by omega
    have hgi := List.getElem?_eq_getElem hig
    generalize gs[i] = r at hgi
    obtain ⟨x, hx, br, rfl, er⟩ := hzs.at hgi
    have atx : atI zs (0 + (i : Int)) = some (.ref br) := by
      rw [Int.zero_add]
      exact atI_nat hx
    refine ⟨rfl, ?_⟩
    refine ⟨_, rfl, _, rfl, b, _, _, _, rfl, rfl, sqt (s1 _ _ e0), atx, br, _, rfl, .inr (sqt (s1 _ _ er)), _, _, rfl, rfl, _, rfl, ?_⟩
    refine ite2 (fun z => ?_) (fun z => ⟨fs, s1, e1, by omega, fun s hs => by obtain ⟨h1, h2, h3⟩ := hmem s hs; exact ⟨h1, by omega, h3⟩⟩)
    have hrp : (0 : Int) < (((r.map V.int).length : Nat) : Int) := of_decide_eq_true z
    rw [List.length_map] at hrp
    refine ⟨_, rfl, _, e1, big' (by rw [List.length_map]; omega), fs ++ [0 + (i : Int)], same_put s1 hD', by rw [upd_same, List.map_append]; rfl, by rw [List.length_append]; exact Nat.add_le_add_right hlen 1, fun s hs => ?_⟩
    rcases List.mem_append.mp hs with hs | hs
    · obtain ⟨h1, h2, h3⟩ := hmem s hs
      exact ⟨h1, by omega, h3⟩
    · rw [List.mem_singleton.mp hs]
      refine ⟨by omega, by omega, r, ?_, by omega⟩
      rw [show ((0 : Int) + (i : Int)).toNat = i by omega]
      exact hgi
  · rintro H1 ⟨fs, s1, e1, hlen, hmem⟩
    have g1 := Go.same hD s1
    have e1b := s1 _ _ e0
    have hz1 := hzs.mono fun o x => OptIn.tp (Tp.same s1)
    refine' cutP ?f1 ?b1
    case f1 =>
      intro body
      refine ⟨_, rfl, D, _, rfl, .inl (sqd e1), rfl, _, rfl, ?_⟩
      refine ite2 (fun z => iteT body) (fun z => ?_)
      have hfn := int_ne z
      rw [List.length_map] at hfn
      refine ⟨_, rfl, b, _, rfl, .inr (sqt e1b), _, _, rfl, rfl, _, rfl, ?_⟩
      refine ite2 (fun z2 => body) (fun z2 => ?_)
      have hn2 : ¬ (((zs.length : Nat) : Int) < 2) := fun h => z2 (decide_eq_true h)
      -- the row
      refine ⟨_, rfl, _, rfl, _, rfl, D, _, rfl, .inl (sqd e1), d, _, rfl, g1.dr, by rw [List.length_map]; omega, fun u H2 g2 u0 u1 => ?_⟩
      have e2 := g2.fr D _ nDd e1
      obtain ⟨one, ho, hom⟩ := atI_map (f := V.int) (xs := fs) u0 (by rw [List.length_map] at u1; exact u1)
      obtain ⟨o0, o1, r1, hr1, hr1l⟩ := hmem one hom
      refine ⟨D, _, _, _, rfl, rfl, sqd e2, ho, ?_⟩
      have e2b := g2.tp g1.dr _ _ e1b
      have hz2 := hz1.mono fun o x => OptIn.tp (g2.tp g1.dr)
      obtain ⟨n0, n1, n2⟩ := next_ne o0 (show one < ((zs.length : Nat) : Int) by omega) (by omega)
      refine ⟨_, rfl, _, _, rfl, rfl, .inl ⟨_, rfl, _, rfl, b, _, rfl, .inr (sqt e2b), _, _, rfl, rfl, by omega, ?_⟩⟩
      generalize hot : (one + 1) % ((zs.length : Nat) : Int) = ot at n0 n1 n2
      obtain ⟨i1, hi1⟩ : ∃ i1 : Nat, one = (i1 : Int) := ⟨one.toNat, by omega⟩
      obtain ⟨i2, hi2⟩ : ∃ i2 : Nat, ot = (i2 : Int) := ⟨ot.toNat, by omega⟩
      have hot' : (one + 1) % ((zs.length : Nat) : Int) = (i2 : Int) := hot.trans hi2
      rw [hi1] at hr1
      rw [show ((i1 : Int)).toNat = i1 by omega] at hr1
      have h2g : i2 < gs.length := by omega
      have hr2 := List.getElem?_eq_getElem h2g
      generalize gs[i2] = r2 at hr2
      obtain ⟨x1, hx1, b1, rfl, er1⟩ := hz2.at hr1
      obtain ⟨x2, hx2, b2, rfl, er2⟩ := hz2.at hr2
      have hl1 := hG.row r1 (List.mem_of_getElem? hr1)
      have hl2 := hG.row r2 (List.mem_of_getElem? hr2)
      have at1 : atI zs one = some (.ref b1) := by rw [hi1]; exact atI_nat hx1
      have at2 : atI zs ((one + 1) % ((zs.length : Nat) : Int)) = some (.ref b2) := by rw [hot']; exact atI_nat hx2
      have i1z : i1 < zs.length := (List.getElem?_eq_some_iff.mp hx1).1
      have i2z : i2 < zs.length := (List.getElem?_eq_some_iff.mp hx2).1
      have i12 : i2 ≠ i1 := by omega
      refine ⟨_, rfl, b, _, rfl, .inr (sqt e2b), fun rl hrl => ?_⟩
      obtain ⟨H3, e3, s3, k3⟩ := newH hrl (.lst zs)
      rw [e3]
      have nrl := new_ne g2.dr hrl
      refine ⟨_, rfl, _, rfl, rl, _, _, _, rfl, rfl, sqd k3, at2, _, rfl, _, rfl, rl, _, _, _, rfl, rfl, sqd k3, at1, 1, rfl, ?_⟩
      refine slI (m := r1.take 1) (cutT (k := 1) rfl) (s3 _ _ er1) fun p1 H4 s4 e4 => ?_
      refine catI ((s3.trans s4) _ _ er2) e4 (by rw [List.length_take]; omega) fun p2 H5 s5 e5 => ?_
      have s35 := (s3.trans s4).trans s5
      have k5 := (s4.trans s5) _ _ k3
      have ix2 : ixN zs.length ((one + 1) % ((zs.length : Nat) : Int)) = some i2 := by
        rw [hot', ixN_in (by omega) (by omega)]
        rfl
      refine ⟨_, rfl, _, rfl, rl, _, _, _, rfl, rfl, k5, ix2, ?_⟩
      -- the second store
      have np2 : p2 ≠ rl := fun e => by
        rw [e, k5] at e5
        cases e5
      have t6 : Tp H5 (upd H5 rl (.lst (zs.set i2 (.ref p2)))) := tp_put Tp.refl k5
      have k6 : upd H5 rl (.lst (zs.set i2 (.ref p2))) rl = some (.lst (zs.set i2 (.ref p2))) := upd_same
      have gx6 : Go d H2 (upd H5 rl (.lst (zs.set i2 (.ref p2)))) := (Go.same g2.dr s35).put2 hrl nrl
      generalize upd H5 rl (.lst (zs.set i2 (.ref p2))) = H6 at t6 k6 gx6 ⊢
      have at1' : atI (zs.set i2 (.ref p2)) one = some (.ref b1) := by
        rw [hi1]
        refine atI_nat ?_
        rw [List.getElem?_set, if_neg i12]
        exact hx1
      refine ⟨_, rfl, _, rfl, rl, _, _, _, rfl, rfl, sqd k6, at1', 1, rfl, ?_⟩
      unfold tNoPart
      refine slI (m := r1.drop 1) (cutD (k := 1) rfl) (t6 _ _ (s35 _ _ er1)) fun p3 H7 s7 e7 => ?_
      have k7 := s7 _ _ k6
      have ix1 : ixN (zs.set i2 (V.ref p2)).length one = some i1 := by
        rw [hi1, ixN_in (by omega) (by rw [List.length_set]; omega)]
        rfl
      refine ⟨_, rfl, _, rfl, rl, _, _, _, rfl, rfl, k7, ix1, ?_⟩
      have np3 : p3 ≠ rl := fun e => by
        rw [e, k7] at e7
        cases e7
      have t8 : Tp H7 (upd H7 rl (.lst ((zs.set i2 (.ref p2)).set i1 (.ref p3)))) := tp_put Tp.refl k7
      have k8 : upd H7 rl (.lst ((zs.set i2 (.ref p2)).set i1 (.ref p3))) rl = some (.lst ((zs.set i2 (.ref p2)).set i1 (.ref p3))) := upd_same
      have gx8 : Go d H2 (upd H7 rl (.lst ((zs.set i2 (.ref p2)).set i1 (.ref p3)))) := (gx6.trans (.same gx6.dr s7)).put2 hrl nrl
      generalize upd H7 rl (.lst ((zs.set i2 (.ref p2)).set i1 (.ref p3))) = H8 at t8 k8 gx8 ⊢
      refine ⟨_, rfl, rl, _, rfl, .inl ⟨sqd k8, fun t ht => ?_⟩⟩
      have st := same_new ht (.tup ((zs.set i2 (.ref p2)).set i1 (.ref p3)))
      have gall := (g1.trans g2).trans (gx8.trans (.same gx8.dr st))
      have t58 : Tp H5 (upd H8 t (.tup ((zs.set i2 (.ref p2)).set i1 (.ref p3)))) := ((t6.trans (Tp.same s7)).trans t8).trans (Tp.same st)
      have t28 := (Tp.same s35).trans t58
      refine q (.ref t) ((gs.set i2 (r2 ++ r1.take 1)).set i1 (r1.drop 1)) _ gall ⟨t, _, rfl, upd_same, ((hz2.mono fun o x => OptIn.tp t28).set i2 ⟨p2, rfl, t58 _ _ e5⟩).set i1 ⟨p3, rfl, (t8.trans (Tp.same st)) _ _ e7⟩⟩ (.inr ⟨i1, r1, r1.drop 1, hr1, ?_, ?_⟩)
      · rw [List.getElem?_set_self (by rw [List.length_set]; omega)]
      · rw [List.length_drop]
        omega
    case b1 =>
      refine ⟨_, rfl, Nat.le_of_ble_eq_true rfl, fun t1 ht1 => ?_⟩
      obtain ⟨H2, e2, s2, k2⟩ := newH ht1 (.tup ([3].map V.int))
      rw [show upd H1 t1 (.tup [V.int 3]) = H2 from e2]
      refine ⟨Nat.le_of_ble_eq_true rfl, fun t2 ht2 => ?_⟩
      obtain ⟨H3, e3, s3, k3⟩ := newH ht2 (.tup [.ref t1])
      rw [e3]
      refine catA_of ((s2.trans s3) _ _ e1b) k3 (by rw [List.length_singleton]; omega) fun p H4 s4 e4 => ?_
      have s14 := (s2.trans s3).trans s4
      refine q (.ref p) (gs ++ [[3]]) H4 (g1.trans (.same g1.dr s14)) ⟨p, _, rfl, e4, (hz1.mono fun o x => OptIn.tp (Tp.same s14)).snoc ⟨t1, rfl, (s3.trans s4) _ _ k2⟩⟩ (.inl ?_)
      rw [List.length_append, List.length_singleton]
      omega
/-! ### _law_wrong_gains -/
theorem ok_law_wrong_gains (T : Txt K mg) : FnOk P w K mg base CX0 3 T.a_law_wrong_gains T.d_law_wrong_gains P_law_wrong_gains spMoved := by
  have G_law_take := ok_law_take (P := P) (w := w) (base := base) T
  have G_law_moved := ok_law_moved (P := P) (w := w) (base := base) T
  refine T.F_law_wrong_gains.ok sc_law_wrong_gains (fun vs H Q E h => ?_) (fun cdv A outer s H vs Q E hr h => ?_)
  · obtain ⟨d, v, gs, rfl, _⟩ := h
    rfl
  obtain ⟨d, v, gs, rfl, hD, hv, hG, q⟩ := h
  obtain ⟨b, zs, rfl, e0, hzs⟩ := id hv
  have hzl := hzs.1
  have h46 := hG.len
  refine ⟨_, (pss_cons (ps_set (i := 2) sc_law_wrong_gains.nd rfl (Or.inl rfl) (pe_call G_law_take (hr.mono (by omega)) (by rfl) T.m_law_take T.F_law_take.kp T.b_law_take .nil pass0 (pa_cons (pv 0) (pa_cons pe_int pa_nil))))
    (pss_cons (ps_set (i := 3) sc_law_wrong_gains.nd rfl (Or.inl rfl) (pe_call G_law_take (hr.mono (by omega)) (by rfl) T.m_law_take T.F_law_take.kp T.b_law_take .nil pass0 (pa_cons (pv 0) (pa_cons (pe_op op_add (pe_callB call_len_seq (by rfl) T.z_len PySem.boot_len (pa_cons (pv 1) pa_nil)) pe_int) pa_nil))))
    (pss_cons (ps_if (PW.pt (pw_or (pt_cmpR op_eq (pv 2) pe_int (nomark _)) (pw_or1 (pt_cmpR op_eq (pv 3) (pe_callB call_len_seq (by rfl) T.z_len PySem.boot_len (pa_cons (pv 1) pa_nil)) (nomark _)))))
    (pss_one (ps_ret (pe_op op_catA (pe_op op_catA (pe_slice sl_tupA (pv 1) po_none (po_some (pv 3))) (pe_tup (pa_cons (pe_ix ix_list (pe_lst (pa_cons (pe_tup (pa_cons pe_int (pa_cons pe_int pa_nil))) (pa_cons (pe_tup pa_nil) (pa_cons (pe_tup (pa_cons pe_int pa_nil)) pa_nil)))) (pe_call G_law_take (hr.mono (by omega)) (by rfl) T.m_law_take T.F_law_take.kp T.b_law_take .nil pass0 (pa_cons (pv 0) (pa_cons pe_int pa_nil))) (fun _ _ => rfl)) pa_nil))) (pe_slice sl_tupA (pv 1) (po_some (pv 3)) po_none))))
    pss_nil)
    (pss_cons (ps_if (pt_cmpR op_eq (pv 2) pe_int (nomark _))
    (pss_one (ps_ret (pe_op op_catA (pe_slice sl_tupA (pv 1) po_none (po_some (pv 3))) (pe_slice sl_tupA (pv 1) (po_some (pe_op op_add (pv 3) pe_int)) po_none))))
    pss_nil)
    (pss_cons (ps_if (pt_cmpR op_eq (pv 2) pe_int (nomark _))
    (pss_one (ps_ret (pe_call G_law_moved (hr.mono (by omega)) (by rfl) T.m_law_moved T.F_law_moved.kp T.b_law_moved .nil pass0 (pa_cons (pv 0) (pa_cons (pv 1) pa_nil)))))
    pss_nil)
    (pss_cons (ps_if (PW.pt (pw_and (pt_cmpR op_eq (pv 2) pe_int (nomark _)) (pw_and1 (pt_cmpR op_gt (pe_callB call_len_seq (by rfl) T.z_len PySem.boot_len (pa_cons (pe_ix ix_tup (pv 1) (pv 3) (fun _ _ => rfl)) pa_nil)) pe_int (nomark _)))))
    (pss_one (ps_ret (pe_op op_catA (pe_op op_catA (pe_slice sl_tupA (pv 1) po_none (po_some (pv 3))) (pe_tup (pa_cons (pe_slice sl_tupA (pe_ix ix_tup (pv 1) (pv 3) (fun _ _ => rfl)) (po_some pe_int) po_none) pa_nil))) (pe_slice sl_tupA (pv 1) (po_some (pe_op op_add (pv 3) pe_int)) po_none))))
    pss_nil)
    (pss_one (ps_ret (pe_op op_catA (pe_op op_catA (pe_slice sl_tupA (pv 1) po_none (po_some (pv 3))) (pe_tup (pa_cons (pe_op op_catA (pe_ix ix_tup (pv 1) (pv 3) (fun _ _ => rfl)) (pe_tup (pa_cons pe_int pa_nil))) pa_nil))) (pe_slice sl_tupA (pv 1) (po_some (pe_op op_add (pv 3) pe_int)) po_none)))))))))), ?_⟩
  refine ⟨_, rfl, d, 5, rfl, hD, by decide, fun kd H1 g1 _ _ => ?_⟩
  refine ⟨_, rfl, _, rfl, b, _, rfl, .inr (sqt (g1.tp hD _ _ e0)), _, _, rfl, rfl, d, _, rfl, g1.dr, by omega, fun at_ H2 g2 t0 t1 => ?_⟩
  have t1' : at_ < ((zs.length : Nat) : Int) + 1 := t1
  have g12 := g1.trans g2
  have eb := g12.tp hD _ _ e0
  have hz := hzs.mono fun o x => OptIn.tp (g12.tp hD)
  obtain ⟨k, rfl⟩ : ∃ k : Nat, at_ = (k : Int) := ⟨at_.toNat, by omega⟩
  have gs' : ∀ {H'}, Same H2 H' → Go d H H' := fun s => g12.trans (.same g2.dr s)
  refine' cutP ?f1 ?b1
  case f1 =>
    intro body
    refine ⟨_, rfl, rfl, _, rfl, ?_⟩
    refine ite2 (fun z => iteT body) (fun z0 => ?_)
    refine ⟨_, rfl, _, rfl, b, _, rfl, .inr (sqt eb), rfl, _, rfl, ?_⟩
    refine ite2 (fun z => body) (fun z1 => ?_)
    clear body
    have hkn := int_ne z1
    have hkz : k < zs.length := by omega
    have hkg : k < gs.length := by omega
    have hr0 := List.getElem?_eq_getElem hkg
    have htk : gs.take (k + 1) = gs.take k ++ [gs[k]] := by rw [List.take_add_one, hr0]; rfl
    generalize gs[k] = r at hr0 htk
    obtain ⟨x, hx, br, rfl, er⟩ := hz.at hr0
    have hrl := hG.row r (List.mem_of_getElem? hr0)
    have atx : atI zs (k : Int) = some (.ref br) := atI_nat hx
    -- a row less
    refine ⟨_, rfl, rfl, _, rfl, ?_⟩
    refine ite2 (fun z => ?_) (fun z2 => ?_)
    · refine ⟨_, rfl, _, rfl, _, rfl, ?_⟩
      refine slA_of eb fun p1 H3 s3 e3 => ?_
      rw [cut_take] at e3
      refine ⟨_, rfl, _, rfl, _, _, rfl, rfl, _, rfl, ?_⟩
      unfold tNoPart
      refine slA_of (s3 _ _ eb) fun p2 H4 s4 e4 => ?_
      rw [show cutV zs (some ((k : Int) + 1)) none = zs.drop (k + 1) from cutDv (by omega)] at e4
      refine catA_of (s4 _ _ e3) e4 (by rw [List.length_take, List.length_drop]; omega) fun p3 H5 s5 e5 => ?_
      have s25 := (s3.trans s4).trans s5
      have hz5 := hz.mono fun o x => OptIn.tp (Tp.same s25)
      refine q (.ref p3) (gs.take k ++ gs.drop (k + 1)) H5 (gs' s25) ⟨p3, _, rfl, e5, (hz5.take k).app (hz5.drop (k + 1))⟩ (.inl ?_)
      rw [List.length_append, List.length_take, List.length_drop]
      omega
    -- moved
    refine ⟨_, rfl, rfl, _, rfl, ?_⟩
    refine ite2 (fun z => ?_) (fun z3 => ?_)
    · exact ⟨_, rfl, _, rfl, d, _, gs, rfl, g2.dr, ⟨b, zs, rfl, eb, hz⟩, hG, fun u g' H' g3 hu hd => q u g' H' (g12.trans g3) hu hd⟩
    -- another row at k
    have put : ∀ (r' : Opt), r'.length ≠ r.length → ∀ (tt p2 : Addr) (H6 : Hp), Same H2 H6 → H6 p2 = some (.tup (zs.take k ++ [.ref tt])) → H6 tt = some (.tup (r'.map V.int)) →
        rSlA K (.ref b) (some ((k : Int) + 1)) none H6 (fun y H => rCatA K (.ref p2) y H Q) := fun r' hne tt p2 H6 s26 e6 et => by
      refine slA_of (s26 _ _ eb) fun p3 H7 s7 e7 => ?_
      rw [show cutV zs (some ((k : Int) + 1)) none = zs.drop (k + 1) from cutDv (by omega)] at e7
      refine catA_of (s7 _ _ e6) e7 (by rw [List.length_append, List.length_take, List.length_drop, List.length_singleton]; omega) fun p4 H8 s8 e8 => ?_
      have s28 := (s26.trans s7).trans s8
      have hz8 := hz.mono fun o x => OptIn.tp (Tp.same s28)
      refine q (.ref p4) (gs.take k ++ [r'] ++ gs.drop (k + 1)) H8 (gs' s28) ⟨p4, _, rfl, e8, ((hz8.take k).snoc ⟨tt, rfl, (s7.trans s8) _ _ et⟩).app (hz8.drop (k + 1))⟩ (.inr ⟨k, r, r', hr0, ?_, hne⟩)
      rw [List.append_assoc, List.getElem?_append_right (by rw [List.length_take]; omega), List.length_take, show k - min k gs.length = 0 by omega]
      rfl
    refine' cutP ?f2 ?b2
    case f2 =>
      intro body
      refine ⟨_, rfl, rfl, _, rfl, ?_⟩
      refine ite2 (fun z => ?_) (fun z4 => iteF body)
      refine ⟨_, rfl, _, rfl, b, _, _, _, rfl, rfl, sqt eb, atx, br, _, rfl, .inr (sqt er), _, _, rfl, rfl, _, rfl, ?_⟩
      refine ite2 (fun z5 => ?_) (fun z5 => body)
      have hrp : (0 : Int) < (((r.map V.int).length : Nat) : Int) := of_decide_eq_true z5
      rw [List.length_map] at hrp
      refine ⟨_, rfl, _, rfl, _, rfl, ?_⟩
      refine slA_of eb fun p1 H3 s3 e3 => ?_
      rw [cut_take] at e3
      refine ⟨_, rfl, _, rfl, b, _, _, _, rfl, rfl, sqt (s3 _ _ eb), atx, 1, rfl, ?_⟩
      unfold tNoPart
      refine slI (m := r.drop 1) (cutD (k := 1) rfl) (s3 _ _ er) fun p2 H4 s4 e4 => ?_
      refine ⟨Nat.le_of_ble_eq_true rfl, fun t5 ht5 => ?_⟩
      have s5 := same_new ht5 (.tup [V.ref p2])
      refine catA_of (s5 _ _ (s4 _ _ e3)) upd_same (by rw [List.length_take, List.length_singleton]; omega) fun p6 H6 s6 e6 => ?_
      refine ⟨_, rfl, _, rfl, _, _, rfl, rfl, _, rfl, ?_⟩
      exact put (r.drop 1) (by rw [List.length_drop]; omega) p2 p6 H6 (((s3.trans s4).trans s5).trans s6) e6 ((s5.trans s6) _ _ e4)
    case b2 =>
      refine ⟨_, rfl, _, rfl, _, rfl, ?_⟩
      refine slA_of eb fun p1 H3 s3 e3 => ?_
      rw [cut_take] at e3
      refine ⟨_, rfl, _, rfl, b, _, _, _, rfl, rfl, sqt (s3 _ _ eb), atx, Nat.le_of_ble_eq_true rfl, fun t3 ht3 => ?_⟩
      obtain ⟨H4, e4, s4, k4⟩ := newH ht3 (.tup ([3].map V.int))
      rw [show upd H3 t3 (.tup [V.int 3]) = H4 from e4]
      refine catI ((s3.trans s4) _ _ er) k4 (by show _ + 1 ≤ _; omega) fun p2 H5 s5 e5 => ?_
      refine ⟨Nat.le_of_ble_eq_true rfl, fun t5 ht5 => ?_⟩
      have s6 := same_new ht5 (.tup [V.ref p2])
      refine catA_of (s6 _ _ ((s4.trans s5) _ _ e3)) upd_same (by rw [List.length_take, List.length_singleton]; omega) fun p6 H6 s7 e6 => ?_
      refine ⟨_, rfl, _, rfl, _, _, rfl, rfl, _, rfl, ?_⟩
      exact put (r ++ [3]) (by rw [List.length_append, List.length_singleton]; omega) p2 p6 H6 ((((s3.trans s4).trans s5).trans s6).trans s7) e6 ((s6.trans s7) _ _ e5)
  case b1 =>
    refine ⟨_, rfl, _, rfl, _, rfl, ?_⟩
    refine slA_of eb fun p1 H3 s3 e3 => ?_
    rw [cut_take] at e3
    refine ⟨Nat.le_of_ble_eq_true rfl, fun ta hta => ?_⟩
    obtain ⟨H4, e4, s4, k4⟩ := newH hta (.tup ([0, 1].map V.int))
    rw [show upd H3 ta (.tup [V.int 0, V.int 1]) = H4 from e4]
    refine ⟨Nat.zero_le _, fun tb htb => ?_⟩
    obtain ⟨H5, e5, s5, k5⟩ := newH htb (.tup (([] : List Int).map V.int))
    rw [show upd H4 tb (.tup []) = H5 from e5]
    refine ⟨Nat.le_of_ble_eq_true rfl, fun tc htc => ?_⟩
    obtain ⟨H6, e6, s6, k6⟩ := newH htc (.tup ([5].map V.int))
    rw [show upd H5 tc (.tup [V.int 5]) = H6 from e6]
    refine ⟨Nat.le_of_ble_eq_true rfl, fun l hl => ?_⟩
    obtain ⟨H7, e7, s7, k7⟩ := newH hl (.lst [.ref ta, .ref tb, .ref tc])
    rw [e7]
    have s27 := (((s3.trans s4).trans s5).trans s6).trans s7
    have g7 := Go.same g2.dr s27
    have g6 := Go.same g2.dr (((s3.trans s4).trans s5).trans s6)
    refine ⟨_, rfl, d, 3, rfl, g7.dr, by decide, fun u H8 g8 u0 u1 => ?_⟩
    have k8 := g8.fr l _ (new_ne g6.dr hl) k7
    obtain ⟨x, r, hxat, hxin⟩ : ∃ (x : V) (r : Opt), atI [V.ref ta, V.ref tb, V.ref tc] u = some x ∧ OptIn H8 r x := by
      have hu : u = 0 ∨ u = 1 ∨ u = 2 := by omega
      rcases hu with rfl | rfl | rfl
      · exact ⟨_, [0, 1], atI0, ta, rfl, g8.tp g7.dr _ _ (((s5.trans s6).trans s7) _ _ k4)⟩
      · exact ⟨_, [], atI1, tb, rfl, g8.tp g7.dr _ _ ((s6.trans s7) _ _ k5)⟩
      · exact ⟨_, [5], (atI_nat (j := 2) rfl), tc, rfl, g8.tp g7.dr _ _ (s7 _ _ k6)⟩
    refine ⟨l, _, _, _, rfl, rfl, sqd k8, hxat, Nat.le_of_ble_eq_true rfl, fun tt htt => ?_⟩
    obtain ⟨H9, e9, s9, k9⟩ := newH htt (.tup [x])
    rw [e9]
    have e3' := s9 _ _ (g8.tp g7.dr _ _ ((((s4.trans s5).trans s6).trans s7) _ _ e3))
    refine catA_of e3' k9 (by rw [List.length_take, List.length_singleton]; omega) fun p2 Ha sa ea => ?_
    have g28 := g7.trans g8
    have g2a := g28.trans (.same g28.dr (s9.trans sa))
    refine ⟨_, rfl, _, rfl, _, rfl, ?_⟩
    unfold tNoPart
    refine slA_of (g2a.tp g2.dr _ _ eb) fun p3 Hb sb ebb => ?_
    rw [cut_drop] at ebb
    refine catA_of (sb _ _ ea) ebb (by rw [List.length_append, List.length_take, List.length_drop, List.length_singleton]; omega) fun p4 Hc sc ec => ?_
    have g2c := g2a.trans (.same g2a.dr (sb.trans sc))
    have hzc := hz.mono fun o x => OptIn.tp (g2c.tp g2.dr)
    refine q (.ref p4) (gs.take k ++ [r] ++ gs.drop k) Hc (g12.trans g2c) ⟨p4, _, rfl, ec, ((hzc.take k).snoc (hxin.tp (Tp.same ((s9.trans sa).trans (sb.trans sc))))).app (hzc.drop k)⟩ (.inl ?_)
    rw [List.length_append, List.length_append, List.length_take, List.length_drop, List.length_singleton]
    omega
end
end NL

namespace NL
open PySem PySem.Spec PyProof.Rows L2
theorem pi_tupK {X : Cx} {K : PySem.W.Frag} {tg l : Expr} {tl : TE} (h : X.K = K) (e : PE X l tl) : PI X tg l (iTup K tl) := by
  subst h
  exact pi_tup e
def spLaw (K : PySem.W.Frag) : Sp := fun vs H Q _ => ∃ (a : Addr) (ns : List Int), vs = [.ref a] ∧ SqL K H a (ns.map V.int) ∧ ns.length ≤ 63 ∧ ∀ H', Q (.bl true) H'
theorem rows_ok : ∀ {gs : List Opt} {A : Ar}, (∀ (k : Nat) r os, gs[k]? = some r → A[k]? = some os → r.length = os.length) → (badRows gs A).any id = false
  | [], _, _ => rfl
  | _ :: _, [], _ => rfl
  | g :: gs, a :: A, h => by
    have h0 := h 0 g a rfl rfl
    rw [badRows, h0, decide_eq_true rfl, List.any_cons, rows_ok fun k r os e f => h (k + 1) r os e f]
    rfl
theorem rows_bad : ∀ {gs : List Opt} {A : Ar} {k : Nat} {r : Opt} {os : Pos'}, gs[k]? = some r → A[k]? = some os → r.length ≠ os.length → (badRows gs A).any id = true
  | [], _, k, _, _, h, _, _ => by simp at h
  | _ :: _, [], k, _, _, _, h, _ => by simp at h
  | g :: gs, a :: A, 0, r, os, h1, h2, h3 => by
    cases h1
    cases h2
    rw [badRows, ne_len h3, List.any_cons]
    rfl
  | g :: gs, a :: A, k + 1, r, os, h1, h2, h3 => by
    rw [badRows, List.any_cons, rows_bad (k := k) h1 h2 h3, Bool.or_true]
theorem co_ok {A : Ar} {o : List Int} (hl : o.length = A.length) (h : ∀ c ∈ o, 0 ≤ c) : okG A (.co o) = true := by
  show (decide (o.length = A.length) && !(o.map fun c => decide (c < 0)).any id) = true
  rw [decide_eq_true hl, Bool.true_and]
  have : (o.map fun c => decide (c < 0)).any id = false := by
    rw [List.any_map]
    exact List.any_eq_false.mpr fun c hc => by
      have := h c hc
      show ¬ (decide (c < 0) = true)
      rw [decide_eq_true_eq]
      omega
  rw [this]
  rfl
theorem co_bad {A : Ar} {o o' : List Int} (hl : o.length = A.length) (h : o'.length ≠ o.length ∨ ∃ c ∈ o', c < 0) : okG A (.co o') = false := by
  show (decide (o'.length = A.length) && !(o'.map fun c => decide (c < 0)).any id) = false
  rcases h with h | ⟨c, hc, hn⟩
  · rw [decide_eq_false (by omega), Bool.false_and]
  · have : (o'.map fun c => decide (c < 0)).any id = true := by
      rw [List.any_map]
      exact List.any_eq_true.mpr ⟨c, hc, decide_eq_true hn⟩
    rw [this]
    exact Bool.and_false _
theorem ta_ok {A : Ar} {gs : List Opt} (hl : gs.length = A.length) (h : ∀ (k : Nat) r os, gs[k]? = some r → A[k]? = some os → r.length = os.length) : okG A (.ta gs) = true := by
  show (decide (gs.length = A.length) && !(badRows gs A).any id) = true
  rw [decide_eq_true hl, rows_ok h]
  rfl
theorem ta_bad {A : Ar} {gs gs' : List Opt} (hl : gs.length = A.length) (h : ∀ (k : Nat) r os, gs[k]? = some r → A[k]? = some os → r.length = os.length) (hd : Differ gs gs') : okG A (.ta gs') = false := by
  show (decide (gs'.length = A.length) && !(badRows gs' A).any id) = false
  rcases hd with hd | ⟨k, r, r', h1, h2, h3⟩
  · rw [decide_eq_false (by omega), Bool.false_and]
  · have hk : k < A.length := by
      rw [← hl]
      exact (List.getElem?_eq_some_iff.mp h1).1
    have h4 := List.getElem?_eq_getElem hk
    rw [rows_bad h2 h4 (by rw [← h k r _ h1 h4]; exact h3)]
    exact Bool.and_false _
theorem okYes {A : Ar} {g : Gl'} {B : Prop} (h : okG A g = true) : okG A g = false → B := fun e => by
  rw [h] at e
  cases e
theorem okY {A : Ar} {g : Gl'} {B : Prop} (h : okG A g = false) : okG A g = true → B := fun e => by
  rw [h] at e
  cases e
section
variable {P : Program} {w : World} {K : PySem.W.Frag} {mg : Str → Option Value} {base : Heap}
theorem ok_law (T : Txt K mg) (EX : Exs K mg) : FnOk P w K mg base CX0 5 T.alaw T.dlaw Plaw (spLaw K) := by
  have G_law_draws := ok_law_draws (P := P) (w := w) (base := base) T
  have G_law_take := ok_law_take (P := P) (w := w) (base := base) T
  have G_law_cell := ok_law_cell (P := P) (w := w) (base := base) T
  have G_law_arena := ok_law_arena (P := P) (w := w) (base := base) T
  have G_law_places := ok_law_places (P := P) (w := w) (base := base) T
  have G_law_colours := ok_law_colours (P := P) (w := w) (base := base) T
  have G_law_checked := ok_law_checked (P := P) (w := w) (base := base) T EX
  have G_law_only := ok_law_only (P := P) (w := w) (base := base) T
  have G_law_wrong_places := ok_law_wrong_places (P := P) (w := w) (base := base) T
  have G_law_wrong_colours := ok_law_wrong_colours (P := P) (w := w) (base := base) T
  have G_law_wrong_gains := ok_law_wrong_gains (P := P) (w := w) (base := base) T
  refine T.Flaw.ok sclaw (fun vs H Q E h => ?_) (fun cdv A outer s H vs Q E hr h => ?_)
  · obtain ⟨a, ns, rfl, _⟩ := h
    rfl
  obtain ⟨a, ns, rfl, hS, hl, q⟩ := h
  refine ⟨_, (pss_cons (ps_set (i := 1) sclaw.nd rfl (Or.inr rfl) (pe_call G_law_draws (hr.mono (by omega)) (by rfl) T.m_law_draws T.F_law_draws.kp T.b_law_draws .nil pass0 (pa_cons (pv 0) (pa_cons pe_int pa_nil))))
    (pss_cons (ps_set (i := 2) sclaw.nd rfl (Or.inl rfl) (pe_call G_law_arena (hr.mono (by omega)) (by rfl) T.m_law_arena T.F_law_arena.kp T.b_law_arena .nil pass0 (pa_cons (pv 1) (pa_cons (pe_ix ix_list (pe_lst (pa_cons pe_int (pa_cons pe_int (pa_cons pe_int (pa_cons pe_int (pa_cons pe_int (pa_cons pe_int (pa_cons pe_int (pa_cons pe_int pa_nil))))))))) (pe_call G_law_take (hr.mono (by omega)) (by rfl) T.m_law_take T.F_law_take.kp T.b_law_take .nil pass0 (pa_cons (pv 1) (pa_cons pe_int pa_nil))) (fun _ _ => rfl)) pa_nil))))
    (pss_cons (ps_set (i := 3) sclaw.nd rfl (Or.inl rfl) (pe_call G_law_places (hr.mono (by omega)) (by rfl) T.m_law_places T.F_law_places.kp T.b_law_places .nil pass0 (pa_cons (pv 1) (pa_cons (pv 2) pa_nil))))
    (pss_cons (ps_set (i := 4) sclaw.nd rfl (Or.inl rfl) (pe_call G_law_colours (hr.mono (by omega)) (by rfl) T.m_law_colours T.F_law_colours.kp T.b_law_colours .nil pass0 (pa_cons (pv 1) (pa_cons (pv 2) pa_nil))))
    (pss_cons (ps_set (i := 5) sclaw.nd rfl (Or.inr rfl) (pe_ix ix_list (pe_lst (pa_cons pe_int (pa_cons pe_int (pa_cons pe_int (pa_cons (pe_op op_add pe_int (pe_callB (call_abs) (by rfl) T.z_abs (by decide +kernel) (pa_cons (pe_call G_law_cell (hr.mono (by omega)) (by rfl) T.m_law_cell T.F_law_cell.kp T.b_law_cell .nil pass0 (pa_cons (pv 0) (pa_cons (pv 1) pa_nil))) pa_nil))) pa_nil))))) (pe_call G_law_take (hr.mono (by omega)) (by rfl) T.m_law_take T.F_law_take.kp T.b_law_take .nil pass0 (pa_cons (pv 1) (pa_cons pe_int pa_nil))) (fun _ _ => rfl)))
    (pss_cons (ps_set (i := 6) sclaw.nd rfl (Or.inl rfl) (pe_callTy call_tuple_of (by rfl) T.z_tuple (by decide +kernel) (pa_cons (pe_lc (own := [("options", 8)]) (g := (gName 8)) (tt := tYes) rfl sclaw.nd (pi_tup (pv 2)) (blkOk_by (N := Nlaw) (sc := defScope slaw) (by decide +kernel)) (fun _ _ _ _ _ => (pg_name (i := 8) sclaw.nd rfl (Or.inl rfl))) (fun _ _ _ _ _ => pts_nil) (fun _ _ _ _ _ => (pe_callTy (call_tuple_ofK (K := K) rfl) (by rfl) T.z_tuple (by decide +kernel) (pa_cons (pe_lc (own := [("option", 7)]) (g := (gName 7)) (tt := tYes) rfl sclaw.nd (pi_tupK (K := K) rfl (pv 8)) (blkOk_by (by rfl)) (fun _ _ _ _ _ => (pg_name (i := 7) sclaw.nd rfl (Or.inl rfl))) (fun _ _ _ _ _ => pts_nil) (fun _ _ _ _ _ => (pe_op op_mul (pv 5) (pe_op op_sub (pe_call G_law_take (hr.mono (by omega)) (by rfl) T.m_law_take T.F_law_take.kp T.b_law_take .nil pass0 (pa_cons (pv 1) (pa_cons pe_int pa_nil))) pe_int)))) pa_nil)))) pa_nil)))
    (pss_cons (ps_set (i := 9) sclaw.nd rfl (Or.inl rfl) (pe_lst (pa_cons (pe_tup (pa_cons pe_str (pa_cons (pv 3) pa_nil))) (pa_cons (pe_tup (pa_cons pe_str (pa_cons (pv 3) pa_nil))) (pa_cons (pe_tup (pa_cons pe_str (pa_cons (pv 4) pa_nil))) (pa_cons (pe_tup (pa_cons pe_str (pa_cons (pv 6) pa_nil))) (pa_cons (pe_tup (pa_cons pe_str (pa_cons (pe_tup pa_nil) pa_nil))) (pa_cons (pe_tup (pa_cons pe_str (pa_cons (pe_tup pa_nil) pa_nil))) pa_nil))))))))
    (pss_cons (ps_for  PassesOwn.never rfl (pi_list (pv 9)) (pg_name (i := 10) sclaw.nd rfl (Or.inl rfl))
    (pss_one (ps_if (pt_cmpR op_isnot_bl (pe_call G_law_checked (hr.mono (by omega)) (by rfl) T.m_law_checked T.F_law_checked.kp T.b_law_checked .nil pass0 (pa_cons (pv 2) (pa_cons (pv 10) pa_nil))) pe_bl (nomark _))
    (pss_one (ps_ret pe_bl))
    pss_nil)))
    (pss_cons (ps_set (i := 11) sclaw.nd rfl (Or.inl rfl) (pe_lst (pa_cons (pe_tup (pa_cons pe_str (pa_cons (pe_call G_law_wrong_places (hr.mono (by omega)) (by rfl) T.m_law_wrong_places T.F_law_wrong_places.kp T.b_law_wrong_places .nil pass0 (pa_cons (pv 1) (pa_cons (pv 0) (pa_cons (pv 2) (pa_cons (pv 3) pa_nil))))) pa_nil))) pa_nil)))
    (pss_cons (ps_expr (pe_bm PySem.F.plainAttrs_list PySem.F.slot_list_append PySem.F.type_list_append mt_append (pv 11) (pa_cons (pe_tup (pa_cons pe_str (pa_cons (pe_call G_law_wrong_places (hr.mono (by omega)) (by rfl) T.m_law_wrong_places T.F_law_wrong_places.kp T.b_law_wrong_places .nil pass0 (pa_cons (pv 1) (pa_cons (pv 0) (pa_cons (pv 2) (pa_cons (pv 3) pa_nil))))) pa_nil))) pa_nil)))
    (pss_cons (ps_expr (pe_bm PySem.F.plainAttrs_list PySem.F.slot_list_append PySem.F.type_list_append mt_append (pv 11) (pa_cons (pe_tup (pa_cons pe_str (pa_cons (pe_call G_law_wrong_colours (hr.mono (by omega)) (by rfl) T.m_law_wrong_colours T.F_law_wrong_colours.kp T.b_law_wrong_colours .nil pass0 (pa_cons (pv 1) (pa_cons (pv 4) pa_nil))) pa_nil))) pa_nil)))
    (pss_cons (ps_expr (pe_bm PySem.F.plainAttrs_list PySem.F.slot_list_append PySem.F.type_list_append mt_append (pv 11) (pa_cons (pe_tup (pa_cons pe_str (pa_cons (pe_call G_law_wrong_gains (hr.mono (by omega)) (by rfl) T.m_law_wrong_gains T.F_law_wrong_gains.kp T.b_law_wrong_gains .nil pass0 (pa_cons (pv 1) (pa_cons (pv 6) pa_nil))) pa_nil))) pa_nil)))
    (pss_cons (ps_for  PassesOwn.never rfl (pi_list (pv 11)) (pg_name (i := 10) sclaw.nd rfl (Or.inl rfl))
    (pss_one (ps_if (pt_cmpR (op_neD hr.units) (pe_call G_law_checked (hr.mono (by omega)) (by rfl) T.m_law_checked T.F_law_checked.kp T.b_law_checked .nil pass0 (pa_cons (pv 2) (pa_cons (pv 10) pa_nil))) (pe_call G_law_only (hr.mono (by omega)) (by rfl) T.m_law_only T.F_law_only.kp T.b_law_only .nil pass0 (pa_cons pe_int pa_nil)) (nomark _))
    (pss_one (ps_ret pe_bl))
    pss_nil)))
    (pss_one (ps_ret (pe_cmpR op_is_bl (pe_call G_law_checked (hr.mono (by omega)) (by rfl) T.m_law_checked T.F_law_checked.kp T.b_law_checked .nil pass0 (pa_cons (pv 2) (pa_cons (pe_ix ix_list (pv 9) pe_int (fun _ _ => rfl)) pa_nil))) pe_bl (nomark _))))))))))))))))), ?_⟩
  refine ⟨_, rfl, a, ns, 1500, rfl, hS, hl, by decide, by decide, fun d H1 s1 hd D1 => ?_⟩
  have hk := Keep.old hS hd s1
  refine ⟨_, rfl, Nat.le_of_ble_eq_true rfl, fun l hl' => ?_⟩
  obtain ⟨H2, e2, s2, k2⟩ := newH hl' (.lst ([9, 9, 9, 9, 9, 9, 9, 40].map V.int))
  rw [show upd H1 l (.lst [.int 9, .int 9, .int 9, .int 9, .int 9, .int 9, .int 9, .int 40]) = H2 from e2]
  have g2 := Go.same D1 s2
  refine ⟨_, rfl, d, 8, rfl, g2.dr, by decide, fun u H3 g3 u0 u1 => ?_⟩
  obtain ⟨m, hm, hmm⟩ := atI_map (f := V.int) (xs := ([9, 9, 9, 9, 9, 9, 9, 40] : List Int)) u0 u1
  have hm40 : 0 ≤ m ∧ m ≤ 40 := by
    simp only [List.mem_cons, List.not_mem_nil, or_false] at hmm
    omega
  refine ⟨l, _, _, _, rfl, rfl, sqd (g3.fr l _ (new_ne D1 hl') k2), hm, d, m, rfl, g3.dr, hm40.1, by omega, fun v A0 H4 g4 hA4 hG => ?_⟩
  have g14 := (g2.trans g3).trans g4
  have h46 := hG.1
  obtain ⟨b0, xs, rfl, e0, hxs⟩ := id hA4
  -- the parts
  refine ⟨_, rfl, _, rfl, d, _, A0, rfl, g4.dr, hA4, h46, fun bp po H5 g5 ebp hpo => ?_⟩
  refine ⟨_, rfl, _, rfl, d, _, A0, rfl, g5.dr, hA4.tp (g5.tp g4.dr), h46, fun bc co H6 g6 ebc hcl hcp => ?_⟩
  have g16 := (g14.trans g5).trans g6
  refine ⟨_, rfl, _, rfl, a, d, ns, rfl, hk.go g16, g6.dr, fun r H7 g7 _ => ⟨_, rfl, _, _, rfl, rfl, Nat.le_of_ble_eq_true rfl, fun l2 hl2 => ?_⟩⟩
  obtain ⟨sz, hsz⟩ : ∃ z : Int, z = 1 + (if r < 0 then -r else r) := ⟨_, rfl⟩
  obtain ⟨H8, e8, s8, k8⟩ := newH hl2 (.lst ([1, 1, 1, sz].map V.int))
  rw [show upd H7 l2 (.lst [V.int 1, V.int 1, V.int 1, V.int (1 + (if r < 0 then -r else r))]) = H8 from by rw [← hsz]; exact e8]
  have g17 := g16.trans g7
  have g18 := g17.trans (.same g7.dr s8)
  refine ⟨_, rfl, d, 4, rfl, g18.dr, by decide, fun u2 H9 g9 a1 a2 => ?_⟩
  obtain ⟨size, hsize, _⟩ := atI_map (f := V.int) (xs := ([1, 1, 1, sz] : List Int)) a1 a2
  refine ⟨l2, _, _, _, rfl, rfl, sqd (g9.fr l2 _ (new_ne g7.dr hl2) k8), hsize, ?_⟩
  have g49 : Go d H4 H9 := ((g5.trans g6).trans g7).trans ((Go.same g7.dr s8).trans g9)
  have g59 : Go d H5 H9 := (g6.trans g7).trans ((Go.same g7.dr s8).trans g9)
  have g69 : Go d H6 H9 := g7.trans ((Go.same g7.dr s8).trans g9)
  have g19 := g18.trans g9
  have e9 := g49.tp g4.dr _ _ e0
  have hx9 := hxs.mono fun o x => PosIn.tp (g49.tp g4.dr)
  -- the gains
  refine ⟨_, rfl, b0, rfl, ⟨_, sqt e9⟩, fun D hD' => ?_⟩
  have nDd := new_ne g9.dr hD'
  have s10 := same_new hD' (.lst [])
  refine lc_tup (K := K) (a := b0) (xs := xs) (fun (j : Nat) (H' : Hp) => ∃ (zs : List V) (gs : List Opt), Go d H9 H' ∧ H' D = some (.lst zs) ∧ Each (OptIn H') gs zs ∧ gs.length = j ∧ ∀ (k : Nat) r os, gs[k]? = some r → A0[k]? = some os → r.length = os.length) ?_ ?_ ?_ ?_
  · exact ⟨[], [], .same g9.dr s10, upd_same, .nil, rfl, fun k r os h => by simp at h⟩
  · rintro j H' _ ⟨zs, gs, gj, _⟩
    exact sqt (gj.tp g9.dr _ _ e9)
  · rintro j x H' hx ⟨zs, gs, gj, ej, hzs, hgl, hlen⟩
    have hj : j < A0.length := by
      rw [← hxs.1]
      exact (List.getElem?_eq_some_iff.mp hx).1
    have hos := List.getElem?_eq_getElem hj
    generalize A0[j] = os at hos
    obtain ⟨b1, ys, rfl, e1, hys⟩ := hx9.2 j os x hos hx
    have hol := (hG.2 os (List.mem_of_getElem? hos)).1
    refine ⟨rfl, yes_if ?_⟩
    refine ⟨_, rfl, b1, rfl, ⟨_, sqt (gj.tp g9.dr _ _ e1)⟩, fun D2 hD2 => ?_⟩
    have nD2 := new_ne gj.dr hD2
    have s11 := same_new hD2 (.lst [])
    have nDD : D2 ≠ D := fun e => by
      rw [e, ej] at hD2
      cases hD2
    refine lc_tup (K := K) (a := b1) (xs := ys) (fun (i : Nat) (H2 : Hp) => ∃ r : List Int, Go d H' H2 ∧ H2 D2 = some (.lst (r.map V.int)) ∧ r.length = i) ?_ ?_ ?_ ?_
    · exact ⟨[], .same gj.dr s11, upd_same, rfl⟩
    · rintro i H2 _ ⟨r, g2', _⟩
      exact sqt (g2'.tp gj.dr _ _ (gj.tp g9.dr _ _ e1))
    · rintro i y H2 hy ⟨r, g2', er, hrl⟩
      have hi := (List.getElem?_eq_some_iff.mp hy).1
      have hyl := hys.1
      refine ⟨rfl, yes_if ?_⟩
      refine ⟨_, rfl, _, rfl, d, 9, rfl, g2'.dr, by decide, fun y' H3 g3' y0 y1 => ⟨_, _, rfl, rfl, _, _, rfl, rfl, .inr ⟨by omega, by omega⟩, ?_⟩⟩
      have er3 := g3'.fr D2 _ nD2 er
      refine ⟨_, er3, big' (by rw [List.length_map]; omega), r ++ [size * (y' - 4)], (g2'.trans g3').put2 hD2 nD2, ?_, by rw [List.length_append, hrl]; rfl⟩
      rw [upd_same, List.map_append]
      rfl
    · rintro H2 ⟨r, g2', er, hrl⟩
      have ej2 := g2'.fr D _ nDd ej
      refine ⟨D2, _, rfl, .inl ⟨sqd er, fun t ht => ?_⟩⟩
      have st := same_new ht (.tup (r.map V.int))
      have ej3 := st _ _ ej2
      have ntD : t ≠ D := fun e => by
        rw [e, ej2] at ht
        cases ht
      have gt := g2'.trans (.same g2'.dr st)
      refine ⟨zs, ej3, big' (by have := hzs.1; omega), zs ++ [.ref t], gs ++ [r], (gj.trans gt).put2 hD' nDd, upd_same, ?_, by rw [List.length_append, hgl]; rfl, fun k r' os' h1 h2 => ?_⟩
      · refine (hzs.mono fun o x => OptIn.tp (tp_put (gt.tp gj.dr) ej3)).snoc ⟨t, rfl, ?_⟩
        rw [upd_ne ntD]
        exact upd_same
      · by_cases hk2 : k < gs.length
        · rw [List.getElem?_append_left hk2] at h1
          exact hlen k r' os' h1 h2
        · have hk3 : k = gs.length := by
            have := (List.getElem?_eq_some_iff.mp h1).1
            rw [List.length_append, List.length_singleton] at this
            omega
          rw [hk3, List.getElem?_append_right (Nat.le_refl _), Nat.sub_self] at h1
          cases h1
          rw [hk3, hgl, hos] at h2
          cases h2
          rw [hrl, hys.1]
  · rintro Ha ⟨zs, gs, ga, ea, hzs, hgl, hlen⟩
    rw [hxs.1] at hgl
    refine ⟨D, _, rfl, .inl ⟨sqd ea, fun bg hbg => ?_⟩⟩
    obtain ⟨Hb, eb, sb, kb⟩ := newH hbg (.tup zs)
    rw [eb]
    have g9b := ga.trans (.same ga.dr sb)
    have hzb := hzs.mono fun o x => OptIn.tp (Tp.same sb)
    have ebp' := (g59.trans g9b).tp g5.dr _ _ ebp
    have ebc' := (g69.trans g9b).tp g6.dr _ _ ebc
    have hAb := hA4.tp ((g49.trans g9b).tp g4.dr)
    have g1b := g19.trans g9b
    -- the right goals
    refine ⟨_, rfl, Nat.le_of_ble_eq_true rfl, fun t1 ht1 => ?_⟩
    obtain ⟨Hc1, ec1, sc1, kc1⟩ := newH ht1 (.tup [V.str "stay", V.ref bp])
    rw [ec1]
    refine ⟨_, rfl, Nat.le_of_ble_eq_true rfl, fun t2 ht2 => ?_⟩
    obtain ⟨Hc2, ec2, sc2, kc2⟩ := newH ht2 (.tup [V.str "come", V.ref bp])
    rw [ec2]
    refine ⟨_, rfl, Nat.le_of_ble_eq_true rfl, fun t3 ht3 => ?_⟩
    obtain ⟨Hc3, ec3, sc3, kc3⟩ := newH ht3 (.tup [V.str "colours", V.ref bc])
    rw [ec3]
    refine ⟨_, rfl, Nat.le_of_ble_eq_true rfl, fun t4 ht4 => ?_⟩
    obtain ⟨Hc4, ec4, sc4, kc4⟩ := newH ht4 (.tup [V.str "tank", V.ref bg])
    rw [ec4]
    refine ⟨Nat.zero_le _, fun t5 ht5 => ?_⟩
    obtain ⟨Hc5, ec5, sc5, kc5⟩ := newH ht5 (.tup (([] : List Int).map V.int))
    rw [show upd Hc4 t5 (.tup []) = Hc5 from ec5]
    refine ⟨Nat.le_of_ble_eq_true rfl, fun t6 ht6 => ?_⟩
    obtain ⟨Hc6, ec6, sc6, kc6⟩ := newH ht6 (.tup [V.str "stay", V.ref t5])
    rw [ec6]
    refine ⟨Nat.zero_le _, fun t7 ht7 => ?_⟩
    obtain ⟨Hc7, ec7, sc7, kc7⟩ := newH ht7 (.tup (([] : List Int).map V.int))
    rw [show upd Hc6 t7 (.tup []) = Hc7 from ec7]
    refine ⟨Nat.le_of_ble_eq_true rfl, fun t8 ht8 => ?_⟩
    obtain ⟨Hc8, ec8, sc8, kc8⟩ := newH ht8 (.tup [V.str "come", V.ref t7])
    rw [ec8]
    refine ⟨Nat.le_of_ble_eq_true rfl, fun rl hrl => ?_⟩
    obtain ⟨Hd, ed, sd, kd⟩ := newH hrl (.lst [.ref t1, .ref t2, .ref t3, .ref t4, .ref t6, .ref t8])
    rw [ed]
    have s8d := sd
    have s6d := (sc7.trans sc8).trans sd
    have s4d := ((sc5.trans sc6)).trans s6d
    have sbd := (((sc1.trans sc2).trans sc3).trans sc4).trans s4d
    have sc8' := (((((((sc1.trans sc2).trans sc3).trans sc4).trans sc5).trans sc6).trans sc7).trans sc8)
    have gbd := Go.same g9b.dr sbd
    have nrl := new_ne (Go.same g9b.dr sc8').dr hrl
    have kbp := sbd _ _ ebp'
    have kbc := sbd _ _ ebc'
    have hzd := hzb.mono fun o x => OptIn.tp (Tp.same sbd)
    have hAd := hAb.tp (.same sbd)
    have hgbg : PosIn Hd gs (.ref bg) := ⟨bg, zs, rfl, sbd _ _ kb, hzd⟩
    let Gs : List Gl' := [.pl false po, .pl true po, .co co, .ta gs, .pl false [], .pl true []]
    have hGs : Each (GoalIn Hd) Gs [.ref t1, .ref t2, .ref t3, .ref t4, .ref t6, .ref t8] :=
      .cons ⟨t1, _, rfl, ((((sc2.trans sc3).trans sc4).trans s4d)) _ _ kc1, bp, rfl, kbp⟩ (.cons ⟨t2, _, rfl, (((sc3.trans sc4).trans s4d)) _ _ kc2, bp, rfl, kbp⟩ (.cons ⟨t3, _, rfl, ((sc4.trans s4d)) _ _ kc3, bc, rfl, kbc⟩ (.cons ⟨t4, _, rfl, s4d _ _ kc4, hgbg⟩ (.cons ⟨t6, _, rfl, s6d _ _ kc6, t5, rfl, (sc6.trans s6d) _ _ kc5⟩ (.cons ⟨t8, _, rfl, sd _ _ kc8, t7, rfl, (sc8.trans sd) _ _ kc7⟩ .nil)))))
    have hpl : ∀ c, okG A0 (.pl c po) = true := fun c => asc_good hpo.mem hpo.asc
    have hok : ∀ g ∈ Gs, okG A0 g = true := by
      intro g hg
      simp only [Gs, List.mem_cons, List.not_mem_nil, or_false] at hg
      rcases hg with rfl | rfl | rfl | rfl | rfl | rfl
      · exact hpl _
      · exact hpl _
      · exact co_ok hcl hcp
      · exact ta_ok hgl hlen
      · rfl
      · rfl
    have h1000 : A0.length ≤ 1000 := by omega
    refine ⟨_, rfl, rl, rfl, ⟨_, sqd kd⟩, for_list (K := K) (a := rl) (xs := [.ref t1, .ref t2, .ref t3, .ref t4, .ref t6, .ref t8]) (fun (j : Nat) (σ : L2.St) (H' : Hp) => ∃ y : Option V, σ = [some (.ref a), some (.ref d), some (.ref b0), some (.ref bp), some (.ref bc), some (.int size), some (.ref bg), none, none, some (.ref rl), y, none] ∧ Same Hd H') ?_ ?_ ?_ ?_⟩
    · exact ⟨none, rfl, Same.refl Hd⟩
    · rintro j σ H' _ ⟨y, rfl, s'⟩
      exact sqd (s' _ _ kd)
    · rintro j x σ H' hx ⟨y, rfl, s'⟩
      obtain ⟨g, hg⟩ : ∃ g, Gs[j]? = some g := by
        have hj : j < Gs.length := by
          rw [← hGs.1]
          exact (List.getElem?_eq_some_iff.mp hx).1
        exact ⟨_, List.getElem?_eq_getElem hj⟩
      have hgx := hGs.2 j g x hg hx
      have hgo := hok g (List.mem_of_getElem? hg)
      refine ⟨_, rfl, _, rfl, _, x, A0, g, rfl, hAd.tp (.same s'), h1000, hgx.tp (.same s'), fun _ H8' s8' => ?_, okYes hgo⟩
      refine ⟨_, _, rfl, rfl, _, rfl, ?_⟩
      exact ifF rfl ⟨_, rfl, s'.trans s8'⟩
    rintro σ He ⟨y, rfl, se⟩
    -- the wrong goals
    have ge := gbd.trans (.same gbd.dr se)
    have gbe : Go d H1 He := g1b.trans ge
    have t_e : Tp Hd He := Tp.same se
    refine ⟨_, rfl, _, rfl, _, rfl, _, rfl, d, a, bp, ns, _, A0, po, rfl, hk.go gbe, ge.dr, hAd.tp t_e, t_e _ _ kbp, hpo, fun w1 o1 Hf gf ew1 hb1 => ⟨Nat.le_of_ble_eq_true rfl, fun t9 ht9 => ?_⟩⟩
    obtain ⟨Hg, eg, sg, kg⟩ := newH ht9 (.tup [V.str "stay", V.ref w1])
    rw [eg]
    refine ⟨Nat.le_of_ble_eq_true rfl, fun wl hwl => ?_⟩
    obtain ⟨Hh, eh, sh, kh⟩ := newH hwl (.lst [.ref t9])
    rw [eh]
    have gfg := gf.trans (.same gf.dr sg)
    have nwl := new_ne gfg.dr hwl
    have geh := gfg.trans (.same gfg.dr sh)
    have hwl0 : He wl = none := gfg.free hwl
    -- the second
    have tdh := t_e.trans (geh.tp ge.dr)
    refine ⟨_, rfl, .inl ⟨rfl, _, sqd kh⟩, _, rfl, _, rfl, _, rfl, _, rfl, d, a, bp, ns, _, A0, po, rfl, (hk.go gbe).go geh, geh.dr, hAd.tp tdh, tdh _ _ kbp, hpo, fun w2 o2 Hi gi ew2 hb2 => ⟨Nat.le_of_ble_eq_true rfl, fun tA htA => ?_⟩⟩
    obtain ⟨Hj, ej', sj, kj⟩ := newH htA (.tup [V.str "come", V.ref w2])
    rw [ej']
    have khj := sj _ _ (gi.fr wl _ nwl kh)
    refine ⟨wl, _, _, rfl, rfl, khj, Nat.le_of_ble_eq_true rfl, ?_⟩
    have gej := geh.trans (gi.trans (.same gi.dr sj))
    have gek : Go d He (upd Hj wl (.lst ([V.ref t9] ++ [V.ref tA]))) := gej.put2 hwl0 nwl
    have tjk : Tp Hj (upd Hj wl (.lst ([V.ref t9] ++ [V.ref tA]))) := tp_put Tp.refl khj
    have kk : upd Hj wl (.lst ([V.ref t9] ++ [V.ref tA])) wl = some (.lst [V.ref t9, V.ref tA]) := upd_same
    generalize upd Hj wl (.lst ([V.ref t9] ++ [V.ref tA])) = Hk at gek tjk kk ⊢
    -- the third
    have tdk := t_e.trans (gek.tp ge.dr)
    refine ⟨_, rfl, .inl ⟨rfl, _, sqd kk⟩, _, rfl, _, rfl, d, bc, co, rfl, gek.dr, tdk _ _ kbc, by omega, hcp, fun w3 o3 Hl gl' ew3 hb3 => ⟨Nat.le_of_ble_eq_true rfl, fun tB htB => ?_⟩⟩
    obtain ⟨Hm, em, sm, km⟩ := newH htB (.tup [V.str "colours", V.ref w3])
    rw [em]
    have kkm := sm _ _ (gl'.fr wl _ nwl kk)
    refine ⟨wl, _, _, rfl, rfl, kkm, Nat.le_of_ble_eq_true rfl, ?_⟩
    have gkm := gl'.trans (.same gl'.dr sm)
    have gen' : Go d He (upd Hm wl (.lst ([V.ref t9, V.ref tA] ++ [V.ref tB]))) := (gek.trans gkm).put2 hwl0 nwl
    have tmn : Tp Hm (upd Hm wl (.lst ([V.ref t9, V.ref tA] ++ [V.ref tB]))) := tp_put Tp.refl kkm
    have kn : upd Hm wl (.lst ([V.ref t9, V.ref tA] ++ [V.ref tB])) wl = some (.lst [V.ref t9, V.ref tA, V.ref tB]) := upd_same
    generalize upd Hm wl (.lst ([V.ref t9, V.ref tA] ++ [V.ref tB])) = Hn at gen' tmn kn ⊢
    -- the fourth
    have tdn := t_e.trans (gen'.tp ge.dr)
    have hGa : GaG gs := ⟨by omega, fun r hr => by
      obtain ⟨k, hk1, e⟩ := List.mem_iff_getElem.mp hr
      have h1 := List.getElem?_eq_getElem hk1
      have hkA : k < A0.length := by omega
      have h2 := List.getElem?_eq_getElem hkA
      have := hlen k _ _ h1 h2
      have h3 := (hG.2 _ (List.mem_of_getElem? h2)).1
      rw [← e]
      omega⟩
    refine ⟨_, rfl, .inl ⟨rfl, _, sqd kn⟩, _, rfl, _, rfl, d, _, gs, rfl, gen'.dr, PosIn.tp tdn hgbg, hGa, fun u4 g4' Ho go' hu4 hb4 => ⟨Nat.le_of_ble_eq_true rfl, fun tC htC => ?_⟩⟩
    obtain ⟨Hp', ep', sp', kp⟩ := newH htC (.tup [V.str "tank", u4])
    rw [ep']
    have knp := sp' _ _ (go'.fr wl _ nwl kn)
    refine ⟨wl, _, _, rfl, rfl, knp, Nat.le_of_ble_eq_true rfl, ?_⟩
    have gnp := go'.trans (.same go'.dr sp')
    have geq : Go d He (upd Hp' wl (.lst ([V.ref t9, V.ref tA, V.ref tB] ++ [V.ref tC]))) := (gen'.trans gnp).put2 hwl0 nwl
    have tpq : Tp Hp' (upd Hp' wl (.lst ([V.ref t9, V.ref tA, V.ref tB] ++ [V.ref tC]))) := tp_put Tp.refl knp
    have kq : upd Hp' wl (.lst ([V.ref t9, V.ref tA, V.ref tB] ++ [V.ref tC])) wl = some (.lst [V.ref t9, V.ref tA, V.ref tB, V.ref tC]) := upd_same
    generalize upd Hp' wl (.lst ([V.ref t9, V.ref tA, V.ref tB] ++ [V.ref tC])) = Hq at geq tpq kq ⊢
    have tdq := t_e.trans (geq.tp ge.dr)
    have tnq : Tp Hn Hq := (gnp.tp gen'.dr).trans tpq
    have tkq : Tp Hk Hq := ((gkm.tp gek.dr).trans tmn).trans tnq
    have thq : Tp Hh Hq := (((gi.tp geh.dr).trans (Tp.same sj)).trans tjk).trans tkq
    let Ws : List Gl' := [.pl false o1, .pl true o2, .co o3, .ta g4']
    have hWs : Each (GoalIn Hq) Ws [.ref t9, .ref tA, .ref tB, .ref tC] :=
      .cons ⟨t9, _, rfl, thq _ _ (sh _ _ kg), w1, rfl, thq _ _ ((sg.trans sh) _ _ ew1)⟩ (.cons ⟨tA, _, rfl, tkq _ _ (tjk _ _ kj), w2, rfl, tkq _ _ (tjk _ _ (sj _ _ ew2))⟩ (.cons ⟨tB, _, rfl, tnq _ _ (tmn _ _ km), w3, rfl, tnq _ _ (tmn _ _ (sm _ _ ew3))⟩ (.cons ⟨tC, _, rfl, tpq _ _ kp, PosIn.tp tpq (PosIn.tp (Tp.same sp') hu4)⟩ .nil)))
    have hwr : ∀ g ∈ Ws, okG A0 g = false := by
      intro g hg
      simp only [Ws, List.mem_cons, List.not_mem_nil, or_false] at hg
      rcases hg with rfl | rfl | rfl | rfl
      · exact hb1
      · exact hb2
      · exact co_bad hcl hb3
      · exact ta_bad hgl hlen hb4
    have krl := geq.fr rl _ nrl (se _ _ kd)
    refine ⟨_, rfl, wl, rfl, ⟨_, sqd kq⟩, for_list (K := K) (a := wl) (xs := [.ref t9, .ref tA, .ref tB, .ref tC]) (fun (j : Nat) (σ : L2.St) (H' : Hp) => ∃ y : Option V, σ = [some (.ref a), some (.ref d), some (.ref b0), some (.ref bp), some (.ref bc), some (.int size), some (.ref bg), none, none, some (.ref rl), y, some (.ref wl)] ∧ Same Hq H') ?_ ?_ ?_ ?_⟩
    · exact ⟨y, rfl, Same.refl Hq⟩
    · rintro j σ H' _ ⟨y, rfl, s'⟩
      exact sqd (s' _ _ kq)
    · rintro j x σ H' hx ⟨y, rfl, s'⟩
      obtain ⟨g, hg⟩ : ∃ g, Ws[j]? = some g := by
        have hj : j < Ws.length := by
          rw [← hWs.1]
          exact (List.getElem?_eq_some_iff.mp hx).1
        exact ⟨_, List.getElem?_eq_getElem hj⟩
      have hgx := hWs.2 j g x hg hx
      have hgo := hwr g (List.mem_of_getElem? hg)
      refine ⟨_, rfl, _, rfl, _, x, A0, g, rfl, hAd.tp (tdq.trans (.same s')), h1000, hgx.tp (.same s'), okY hgo, fun _ pb H8' s8' e8' => ?_⟩
      refine ⟨1, rfl, fun po' H9' s9' e9' => ?_⟩
      rw [only_at] at e9'
      refine ne_bls (s9' _ _ e8') e9' ⟨_, rfl, ?_⟩
      exact iteF ⟨_, rfl, (s'.trans s8').trans s9'⟩
    rintro σ Hr ⟨y', rfl, sr⟩
    refine ⟨_, rfl, _, rfl, rl, _, _, _, rfl, rfl, sqd (sr _ _ krl), atI0, _, _, A0, .pl false po, rfl, hAd.tp (tdq.trans (.same sr)), h1000, (hGs.2 0 _ _ rfl rfl).tp (tdq.trans (.same sr)), fun _ H24 s24 => ⟨_, _, rfl, rfl, boolE (decide_eq_true rfl) (q H24)⟩, okYes (hpl false)⟩
end
end NL

namespace NL
open PySem PySem.Spec PyProof.Rows L2
theorem all_mk {l : PySem.W.OpenLaw} {w : World} {K : PySem.W.Frag} {h : Heap} {mg : Str → Option Value} {fa fcheck_goal fis_ascending f_law_draws f_law_take f_law_cell f_law_option f_law_arena f_law_colours f_law_class f_law_only f_law_places f_law_wrong_places f_law_wrong_colours f_law_moved f_law_wrong_gains f_law_checked flaw : Addr} (X : K.In h) (G : h.Ns mainGlobals mg) (hfa : mg "law" = some (.ref fa))
    {odcheck_goal ancheck_goal : Option Addr} {slcheck_goal : Array (Option Value)} {occheck_goal kVcheck_goal dccheck_goal pmcheck_goal cdcheck_goal ctcheck_goal : Value}
    {odis_ascending anis_ascending : Option Addr} {slis_ascending : Array (Option Value)} {ocis_ascending kVis_ascending dcis_ascending pmis_ascending cdis_ascending ctis_ascending : Value}
    {od_law_draws an_law_draws : Option Addr} {sl_law_draws : Array (Option Value)} {oc_law_draws kV_law_draws dc_law_draws pm_law_draws cd_law_draws ct_law_draws : Value}
    {od_law_take an_law_take : Option Addr} {sl_law_take : Array (Option Value)} {oc_law_take kV_law_take dc_law_take pm_law_take cd_law_take ct_law_take : Value}
    {od_law_cell an_law_cell : Option Addr} {sl_law_cell : Array (Option Value)} {oc_law_cell kV_law_cell dc_law_cell pm_law_cell cd_law_cell ct_law_cell : Value}
    {od_law_option an_law_option : Option Addr} {sl_law_option : Array (Option Value)} {oc_law_option kV_law_option dc_law_option pm_law_option cd_law_option ct_law_option : Value}
    {od_law_arena an_law_arena : Option Addr} {sl_law_arena : Array (Option Value)} {oc_law_arena kV_law_arena dc_law_arena pm_law_arena cd_law_arena ct_law_arena : Value}
    {od_law_colours an_law_colours : Option Addr} {sl_law_colours : Array (Option Value)} {oc_law_colours kV_law_colours dc_law_colours pm_law_colours cd_law_colours ct_law_colours : Value}
    {od_law_class an_law_class : Option Addr} {sl_law_class : Array (Option Value)} {oc_law_class kV_law_class dc_law_class pm_law_class cd_law_class ct_law_class : Value}
    {od_law_only an_law_only : Option Addr} {sl_law_only : Array (Option Value)} {oc_law_only kV_law_only dc_law_only pm_law_only cd_law_only ct_law_only : Value}
    {od_law_places an_law_places : Option Addr} {sl_law_places : Array (Option Value)} {oc_law_places kV_law_places dc_law_places pm_law_places cd_law_places ct_law_places : Value}
    {od_law_wrong_places an_law_wrong_places : Option Addr} {sl_law_wrong_places : Array (Option Value)} {oc_law_wrong_places kV_law_wrong_places dc_law_wrong_places pm_law_wrong_places cd_law_wrong_places ct_law_wrong_places : Value}
    {od_law_wrong_colours an_law_wrong_colours : Option Addr} {sl_law_wrong_colours : Array (Option Value)} {oc_law_wrong_colours kV_law_wrong_colours dc_law_wrong_colours pm_law_wrong_colours cd_law_wrong_colours ct_law_wrong_colours : Value}
    {od_law_moved an_law_moved : Option Addr} {sl_law_moved : Array (Option Value)} {oc_law_moved kV_law_moved dc_law_moved pm_law_moved cd_law_moved ct_law_moved : Value}
    {od_law_wrong_gains an_law_wrong_gains : Option Addr} {sl_law_wrong_gains : Array (Option Value)} {oc_law_wrong_gains kV_law_wrong_gains dc_law_wrong_gains pm_law_wrong_gains cd_law_wrong_gains ct_law_wrong_gains : Value}
    {od_law_checked an_law_checked : Option Addr} {sl_law_checked : Array (Option Value)} {oc_law_checked kV_law_checked dc_law_checked pm_law_checked cd_law_checked ct_law_checked : Value}
    {odlaw anlaw : Option Addr} {sllaw : Array (Option Value)} {oclaw kVlaw dclaw pmlaw cdlaw ctlaw : Value}
    {c_ControlError c_InvalidExpression c_InvalidPlant c_InvalidArena c_InvalidGoal c_BadText c_NoPosition c_Held c_NotHeld c_BadReply c_Lost : Addr}
    (acheck_goal : PySem.W.nsIn K mainGlobals "check_goal" = some (some (.ref fcheck_goal))) (lcheck_goal : K.lookup fcheck_goal = some ⟨occheck_goal, odcheck_goal, .func (PySem.W.fnOf "check_goal" "check_goal" (defArgs scheck_goal) (defBody scheck_goal) (defScope scheck_goal) .none kVcheck_goal dccheck_goal pmcheck_goal ancheck_goal cdcheck_goal ctcheck_goal), slcheck_goal⟩) (ccheck_goal : PySem.W.codeIn K cdcheck_goal "check_goal" = true) (kcheck_goal : PySem.W.keepIn K (.ref fcheck_goal) = true)
    (ais_ascending : PySem.W.nsIn K mainGlobals "is_ascending" = some (some (.ref fis_ascending))) (lis_ascending : K.lookup fis_ascending = some ⟨ocis_ascending, odis_ascending, .func (PySem.W.fnOf "is_ascending" "is_ascending" (defArgs sis_ascending) (defBody sis_ascending) (defScope sis_ascending) .none kVis_ascending dcis_ascending pmis_ascending anis_ascending cdis_ascending ctis_ascending), slis_ascending⟩) (cis_ascending : PySem.W.codeIn K cdis_ascending "is_ascending" = true) (kis_ascending : PySem.W.keepIn K (.ref fis_ascending) = true)
    (a_law_draws : PySem.W.nsIn K mainGlobals "_law_draws" = some (some (.ref f_law_draws))) (l_law_draws : K.lookup f_law_draws = some ⟨oc_law_draws, od_law_draws, .func (PySem.W.fnOf "_law_draws" "_law_draws" (defArgs s_law_draws) (defBody s_law_draws) (defScope s_law_draws) .none kV_law_draws dc_law_draws pm_law_draws an_law_draws cd_law_draws ct_law_draws), sl_law_draws⟩) (c_law_draws : PySem.W.codeIn K cd_law_draws "_law_draws" = true) (k_law_draws : PySem.W.keepIn K (.ref f_law_draws) = true)
    (a_law_take : PySem.W.nsIn K mainGlobals "_law_take" = some (some (.ref f_law_take))) (l_law_take : K.lookup f_law_take = some ⟨oc_law_take, od_law_take, .func (PySem.W.fnOf "_law_take" "_law_take" (defArgs s_law_take) (defBody s_law_take) (defScope s_law_take) .none kV_law_take dc_law_take pm_law_take an_law_take cd_law_take ct_law_take), sl_law_take⟩) (c_law_take : PySem.W.codeIn K cd_law_take "_law_take" = true) (k_law_take : PySem.W.keepIn K (.ref f_law_take) = true)
    (a_law_cell : PySem.W.nsIn K mainGlobals "_law_cell" = some (some (.ref f_law_cell))) (l_law_cell : K.lookup f_law_cell = some ⟨oc_law_cell, od_law_cell, .func (PySem.W.fnOf "_law_cell" "_law_cell" (defArgs s_law_cell) (defBody s_law_cell) (defScope s_law_cell) .none kV_law_cell dc_law_cell pm_law_cell an_law_cell cd_law_cell ct_law_cell), sl_law_cell⟩) (c_law_cell : PySem.W.codeIn K cd_law_cell "_law_cell" = true) (k_law_cell : PySem.W.keepIn K (.ref f_law_cell) = true)
    (a_law_option : PySem.W.nsIn K mainGlobals "_law_option" = some (some (.ref f_law_option))) (l_law_option : K.lookup f_law_option = some ⟨oc_law_option, od_law_option, .func (PySem.W.fnOf "_law_option" "_law_option" (defArgs s_law_option) (defBody s_law_option) (defScope s_law_option) .none kV_law_option dc_law_option pm_law_option an_law_option cd_law_option ct_law_option), sl_law_option⟩) (c_law_option : PySem.W.codeIn K cd_law_option "_law_option" = true) (k_law_option : PySem.W.keepIn K (.ref f_law_option) = true)
    (a_law_arena : PySem.W.nsIn K mainGlobals "_law_arena" = some (some (.ref f_law_arena))) (l_law_arena : K.lookup f_law_arena = some ⟨oc_law_arena, od_law_arena, .func (PySem.W.fnOf "_law_arena" "_law_arena" (defArgs s_law_arena) (defBody s_law_arena) (defScope s_law_arena) .none kV_law_arena dc_law_arena pm_law_arena an_law_arena cd_law_arena ct_law_arena), sl_law_arena⟩) (c_law_arena : PySem.W.codeIn K cd_law_arena "_law_arena" = true) (k_law_arena : PySem.W.keepIn K (.ref f_law_arena) = true)
    (a_law_colours : PySem.W.nsIn K mainGlobals "_law_colours" = some (some (.ref f_law_colours))) (l_law_colours : K.lookup f_law_colours = some ⟨oc_law_colours, od_law_colours, .func (PySem.W.fnOf "_law_colours" "_law_colours" (defArgs s_law_colours) (defBody s_law_colours) (defScope s_law_colours) .none kV_law_colours dc_law_colours pm_law_colours an_law_colours cd_law_colours ct_law_colours), sl_law_colours⟩) (c_law_colours : PySem.W.codeIn K cd_law_colours "_law_colours" = true) (k_law_colours : PySem.W.keepIn K (.ref f_law_colours) = true)
    (a_law_class : PySem.W.nsIn K mainGlobals "_law_class" = some (some (.ref f_law_class))) (l_law_class : K.lookup f_law_class = some ⟨oc_law_class, od_law_class, .func (PySem.W.fnOf "_law_class" "_law_class" (defArgs s_law_class) (defBody s_law_class) (defScope s_law_class) .none kV_law_class dc_law_class pm_law_class an_law_class cd_law_class ct_law_class), sl_law_class⟩) (c_law_class : PySem.W.codeIn K cd_law_class "_law_class" = true) (k_law_class : PySem.W.keepIn K (.ref f_law_class) = true)
    (a_law_only : PySem.W.nsIn K mainGlobals "_law_only" = some (some (.ref f_law_only))) (l_law_only : K.lookup f_law_only = some ⟨oc_law_only, od_law_only, .func (PySem.W.fnOf "_law_only" "_law_only" (defArgs s_law_only) (defBody s_law_only) (defScope s_law_only) .none kV_law_only dc_law_only pm_law_only an_law_only cd_law_only ct_law_only), sl_law_only⟩) (c_law_only : PySem.W.codeIn K cd_law_only "_law_only" = true) (k_law_only : PySem.W.keepIn K (.ref f_law_only) = true)
    (a_law_places : PySem.W.nsIn K mainGlobals "_law_places" = some (some (.ref f_law_places))) (l_law_places : K.lookup f_law_places = some ⟨oc_law_places, od_law_places, .func (PySem.W.fnOf "_law_places" "_law_places" (defArgs s_law_places) (defBody s_law_places) (defScope s_law_places) .none kV_law_places dc_law_places pm_law_places an_law_places cd_law_places ct_law_places), sl_law_places⟩) (c_law_places : PySem.W.codeIn K cd_law_places "_law_places" = true) (k_law_places : PySem.W.keepIn K (.ref f_law_places) = true)
    (a_law_wrong_places : PySem.W.nsIn K mainGlobals "_law_wrong_places" = some (some (.ref f_law_wrong_places))) (l_law_wrong_places : K.lookup f_law_wrong_places = some ⟨oc_law_wrong_places, od_law_wrong_places, .func (PySem.W.fnOf "_law_wrong_places" "_law_wrong_places" (defArgs s_law_wrong_places) (defBody s_law_wrong_places) (defScope s_law_wrong_places) .none kV_law_wrong_places dc_law_wrong_places pm_law_wrong_places an_law_wrong_places cd_law_wrong_places ct_law_wrong_places), sl_law_wrong_places⟩) (c_law_wrong_places : PySem.W.codeIn K cd_law_wrong_places "_law_wrong_places" = true) (k_law_wrong_places : PySem.W.keepIn K (.ref f_law_wrong_places) = true)
    (a_law_wrong_colours : PySem.W.nsIn K mainGlobals "_law_wrong_colours" = some (some (.ref f_law_wrong_colours))) (l_law_wrong_colours : K.lookup f_law_wrong_colours = some ⟨oc_law_wrong_colours, od_law_wrong_colours, .func (PySem.W.fnOf "_law_wrong_colours" "_law_wrong_colours" (defArgs s_law_wrong_colours) (defBody s_law_wrong_colours) (defScope s_law_wrong_colours) .none kV_law_wrong_colours dc_law_wrong_colours pm_law_wrong_colours an_law_wrong_colours cd_law_wrong_colours ct_law_wrong_colours), sl_law_wrong_colours⟩) (c_law_wrong_colours : PySem.W.codeIn K cd_law_wrong_colours "_law_wrong_colours" = true) (k_law_wrong_colours : PySem.W.keepIn K (.ref f_law_wrong_colours) = true)
    (a_law_moved : PySem.W.nsIn K mainGlobals "_law_moved" = some (some (.ref f_law_moved))) (l_law_moved : K.lookup f_law_moved = some ⟨oc_law_moved, od_law_moved, .func (PySem.W.fnOf "_law_moved" "_law_moved" (defArgs s_law_moved) (defBody s_law_moved) (defScope s_law_moved) .none kV_law_moved dc_law_moved pm_law_moved an_law_moved cd_law_moved ct_law_moved), sl_law_moved⟩) (c_law_moved : PySem.W.codeIn K cd_law_moved "_law_moved" = true) (k_law_moved : PySem.W.keepIn K (.ref f_law_moved) = true)
    (a_law_wrong_gains : PySem.W.nsIn K mainGlobals "_law_wrong_gains" = some (some (.ref f_law_wrong_gains))) (l_law_wrong_gains : K.lookup f_law_wrong_gains = some ⟨oc_law_wrong_gains, od_law_wrong_gains, .func (PySem.W.fnOf "_law_wrong_gains" "_law_wrong_gains" (defArgs s_law_wrong_gains) (defBody s_law_wrong_gains) (defScope s_law_wrong_gains) .none kV_law_wrong_gains dc_law_wrong_gains pm_law_wrong_gains an_law_wrong_gains cd_law_wrong_gains ct_law_wrong_gains), sl_law_wrong_gains⟩) (c_law_wrong_gains : PySem.W.codeIn K cd_law_wrong_gains "_law_wrong_gains" = true) (k_law_wrong_gains : PySem.W.keepIn K (.ref f_law_wrong_gains) = true)
    (a_law_checked : PySem.W.nsIn K mainGlobals "_law_checked" = some (some (.ref f_law_checked))) (l_law_checked : K.lookup f_law_checked = some ⟨oc_law_checked, od_law_checked, .func (PySem.W.fnOf "_law_checked" "_law_checked" (defArgs s_law_checked) (defBody s_law_checked) (defScope s_law_checked) .none kV_law_checked dc_law_checked pm_law_checked an_law_checked cd_law_checked ct_law_checked), sl_law_checked⟩) (c_law_checked : PySem.W.codeIn K cd_law_checked "_law_checked" = true) (k_law_checked : PySem.W.keepIn K (.ref f_law_checked) = true)
    (alaw : PySem.W.nsIn K mainGlobals "law" = some (some (.ref flaw))) (llaw : K.lookup flaw = some ⟨oclaw, odlaw, .func (PySem.W.fnOf "law" "law" (defArgs slaw) (defBody slaw) (defScope slaw) .none kVlaw dclaw pmlaw anlaw cdlaw ctlaw), sllaw⟩) (claw : PySem.W.codeIn K cdlaw "law" = true) (klaw : PySem.W.keepIn K (.ref flaw) = true)
    (g_ControlError : PySem.W.nsIn K mainGlobals "ControlError" = some (some (.ref c_ControlError)))
    (g_InvalidExpression : PySem.W.nsIn K mainGlobals "InvalidExpression" = some (some (.ref c_InvalidExpression)))
    (g_InvalidPlant : PySem.W.nsIn K mainGlobals "InvalidPlant" = some (some (.ref c_InvalidPlant)))
    (g_InvalidArena : PySem.W.nsIn K mainGlobals "InvalidArena" = some (some (.ref c_InvalidArena)))
    (g_InvalidGoal : PySem.W.nsIn K mainGlobals "InvalidGoal" = some (some (.ref c_InvalidGoal)))
    (g_BadText : PySem.W.nsIn K mainGlobals "BadText" = some (some (.ref c_BadText)))
    (g_NoPosition : PySem.W.nsIn K mainGlobals "NoPosition" = some (some (.ref c_NoPosition)))
    (g_Held : PySem.W.nsIn K mainGlobals "Held" = some (some (.ref c_Held)))
    (g_NotHeld : PySem.W.nsIn K mainGlobals "NotHeld" = some (some (.ref c_NotHeld)))
    (g_BadReply : PySem.W.nsIn K mainGlobals "BadReply" = some (some (.ref c_BadReply)))
    (g_Lost : PySem.W.nsIn K mainGlobals "Lost" = some (some (.ref c_Lost)))
    (ex_x : PySem.W.excIn K c_InvalidGoal [.type "ValueError", .type "Exception", .type "BaseException", .type "object"] "ValueError.__new__" = true) (ex_k : PySem.W.keepIn K (.ref c_InvalidGoal) = true) (ex_b : PySem.W.subIn K (.ref c_InvalidGoal) (.type "BaseException") = some true) (ex_sV : PySem.W.subIn K (.ref c_InvalidGoal) (.type "ValueError") = some true) (ex_bC : PySem.W.subIn K (.ref c_ControlError) (.type "BaseException") = some true)
    (ex_hg : PySem.W.findIn K (.ref c_InvalidGoal) "__getattribute__" = some (some (.builtin "BaseException.__getattribute__"))) (ex_hk : PySem.W.findIn K (.ref c_InvalidGoal) "__getattr__" = some none) (ex_hd : PySem.W.hasDictIn K c_InvalidGoal = true) (ex_ha : PySem.W.findIn K (.ref c_InvalidGoal) "__class__" = some (some (.builtin "object.__class__"))) (ex_hn : PySem.W.specialIn K (.builtin "object.__class__") "__get__" = some (some (.builtin "getset_descriptor.__get__"))) (ex_ht : PySem.W.takesIn K (.builtin "object.__class__") = some true) (ex_hm : PySem.W.mroIn K c_InvalidGoal (.type "object") = some true)
    (i_ControlError : PySem.W.isClsIn K c_ControlError = true) (t_ControlError : PySem.W.typeIn K (.ref c_ControlError) = some (.type "type")) (s_ControlError : PySem.W.subIn K (.ref c_InvalidGoal) (.ref c_ControlError) = some true)
    (i_InvalidExpression : PySem.W.isClsIn K c_InvalidExpression = true) (t_InvalidExpression : PySem.W.typeIn K (.ref c_InvalidExpression) = some (.type "type")) (s_InvalidExpression : PySem.W.subIn K (.ref c_InvalidGoal) (.ref c_InvalidExpression) = some false)
    (i_InvalidPlant : PySem.W.isClsIn K c_InvalidPlant = true) (t_InvalidPlant : PySem.W.typeIn K (.ref c_InvalidPlant) = some (.type "type")) (s_InvalidPlant : PySem.W.subIn K (.ref c_InvalidGoal) (.ref c_InvalidPlant) = some false)
    (i_InvalidArena : PySem.W.isClsIn K c_InvalidArena = true) (t_InvalidArena : PySem.W.typeIn K (.ref c_InvalidArena) = some (.type "type")) (s_InvalidArena : PySem.W.subIn K (.ref c_InvalidGoal) (.ref c_InvalidArena) = some false)
    (i_InvalidGoal : PySem.W.isClsIn K c_InvalidGoal = true) (t_InvalidGoal : PySem.W.typeIn K (.ref c_InvalidGoal) = some (.type "type")) (s_InvalidGoal : PySem.W.subIn K (.ref c_InvalidGoal) (.ref c_InvalidGoal) = some true)
    (i_BadText : PySem.W.isClsIn K c_BadText = true) (t_BadText : PySem.W.typeIn K (.ref c_BadText) = some (.type "type")) (s_BadText : PySem.W.subIn K (.ref c_InvalidGoal) (.ref c_BadText) = some false)
    (i_NoPosition : PySem.W.isClsIn K c_NoPosition = true) (t_NoPosition : PySem.W.typeIn K (.ref c_NoPosition) = some (.type "type")) (s_NoPosition : PySem.W.subIn K (.ref c_InvalidGoal) (.ref c_NoPosition) = some false)
    (i_Held : PySem.W.isClsIn K c_Held = true) (t_Held : PySem.W.typeIn K (.ref c_Held) = some (.type "type")) (s_Held : PySem.W.subIn K (.ref c_InvalidGoal) (.ref c_Held) = some false)
    (i_NotHeld : PySem.W.isClsIn K c_NotHeld = true) (t_NotHeld : PySem.W.typeIn K (.ref c_NotHeld) = some (.type "type")) (s_NotHeld : PySem.W.subIn K (.ref c_InvalidGoal) (.ref c_NotHeld) = some false)
    (i_BadReply : PySem.W.isClsIn K c_BadReply = true) (t_BadReply : PySem.W.typeIn K (.ref c_BadReply) = some (.type "type")) (s_BadReply : PySem.W.subIn K (.ref c_InvalidGoal) (.ref c_BadReply) = some false)
    (i_Lost : PySem.W.isClsIn K c_Lost = true) (t_Lost : PySem.W.typeIn K (.ref c_Lost) = some (.type "type")) (s_Lost : PySem.W.subIn K (.ref c_InvalidGoal) (.ref c_Lost) = some false)
    (z_ValueError : PySem.W.nsIn K mainGlobals "ValueError" = some none)
    (z_abs : PySem.W.nsIn K mainGlobals "abs" = some none)
    (z_any : PySem.W.nsIn K mainGlobals "any" = some none)
    (z_int : PySem.W.nsIn K mainGlobals "int" = some none)
    (z_isinstance : PySem.W.nsIn K mainGlobals "isinstance" = some none)
    (z_len : PySem.W.nsIn K mainGlobals "len" = some none)
    (z_list : PySem.W.nsIn K mainGlobals "list" = some none)
    (z_max : PySem.W.nsIn K mainGlobals "max" = some none)
    (z_range : PySem.W.nsIn K mainGlobals "range" = some none)
    (z_sorted : PySem.W.nsIn K mainGlobals "sorted" = some none)
    (z_tuple : PySem.W.nsIn K mainGlobals "tuple" = some none)
    (z_zip : PySem.W.nsIn K mainGlobals "zip" = some none)
    : ∃ fd : FuncData, (∀ (s : Shared) (v : Value), BindsTo s fd ⟨[v], []⟩ [("script", v)]) ∧ ∀ base : Heap, K.In base → base.Ns mainGlobals mg → FnOk l.prog w K mg base CX0 5 fa fd ["script"] (spLaw K) := by
  have e := hfa.symm.trans (PySem.W.mg_of X G alaw)
  cases e
  let T : Txt K mg := {
    z_ValueError := PySem.W.mg_none_of X G z_ValueError
    z_abs := PySem.W.mg_none_of X G z_abs
    z_any := PySem.W.mg_none_of X G z_any
    z_int := PySem.W.mg_none_of X G z_int
    z_isinstance := PySem.W.mg_none_of X G z_isinstance
    z_len := PySem.W.mg_none_of X G z_len
    z_list := PySem.W.mg_none_of X G z_list
    z_max := PySem.W.mg_none_of X G z_max
    z_range := PySem.W.mg_none_of X G z_range
    z_sorted := PySem.W.mg_none_of X G z_sorted
    z_tuple := PySem.W.mg_none_of X G z_tuple
    z_zip := PySem.W.mg_none_of X G z_zip
    acheck_goal := fcheck_goal
    dcheck_goal := _
    Fcheck_goal := fun_mk (st := scheck_goal) lcheck_goal ccheck_goal kcheck_goal
    mcheck_goal := PySem.W.mg_of X G acheck_goal
    ais_ascending := fis_ascending
    dis_ascending := _
    Fis_ascending := fun_mk (st := sis_ascending) lis_ascending cis_ascending kis_ascending
    mis_ascending := PySem.W.mg_of X G ais_ascending
    a_law_draws := f_law_draws
    d_law_draws := _
    F_law_draws := fun_mk (st := s_law_draws) l_law_draws c_law_draws k_law_draws
    m_law_draws := PySem.W.mg_of X G a_law_draws
    a_law_take := f_law_take
    d_law_take := _
    F_law_take := fun_mk (st := s_law_take) l_law_take c_law_take k_law_take
    m_law_take := PySem.W.mg_of X G a_law_take
    a_law_cell := f_law_cell
    d_law_cell := _
    F_law_cell := fun_mk (st := s_law_cell) l_law_cell c_law_cell k_law_cell
    m_law_cell := PySem.W.mg_of X G a_law_cell
    a_law_option := f_law_option
    d_law_option := _
    F_law_option := fun_mk (st := s_law_option) l_law_option c_law_option k_law_option
    m_law_option := PySem.W.mg_of X G a_law_option
    a_law_arena := f_law_arena
    d_law_arena := _
    F_law_arena := fun_mk (st := s_law_arena) l_law_arena c_law_arena k_law_arena
    m_law_arena := PySem.W.mg_of X G a_law_arena
    a_law_colours := f_law_colours
    d_law_colours := _
    F_law_colours := fun_mk (st := s_law_colours) l_law_colours c_law_colours k_law_colours
    m_law_colours := PySem.W.mg_of X G a_law_colours
    a_law_class := f_law_class
    d_law_class := _
    F_law_class := fun_mk (st := s_law_class) l_law_class c_law_class k_law_class
    m_law_class := PySem.W.mg_of X G a_law_class
    a_law_only := f_law_only
    d_law_only := _
    F_law_only := fun_mk (st := s_law_only) l_law_only c_law_only k_law_only
    m_law_only := PySem.W.mg_of X G a_law_only
    a_law_places := f_law_places
    d_law_places := _
    F_law_places := fun_mk (st := s_law_places) l_law_places c_law_places k_law_places
    m_law_places := PySem.W.mg_of X G a_law_places
    a_law_wrong_places := f_law_wrong_places
    d_law_wrong_places := _
    F_law_wrong_places := fun_mk (st := s_law_wrong_places) l_law_wrong_places c_law_wrong_places k_law_wrong_places
    m_law_wrong_places := PySem.W.mg_of X G a_law_wrong_places
    a_law_wrong_colours := f_law_wrong_colours
    d_law_wrong_colours := _
    F_law_wrong_colours := fun_mk (st := s_law_wrong_colours) l_law_wrong_colours c_law_wrong_colours k_law_wrong_colours
    m_law_wrong_colours := PySem.W.mg_of X G a_law_wrong_colours
    a_law_moved := f_law_moved
    d_law_moved := _
    F_law_moved := fun_mk (st := s_law_moved) l_law_moved c_law_moved k_law_moved
    m_law_moved := PySem.W.mg_of X G a_law_moved
    a_law_wrong_gains := f_law_wrong_gains
    d_law_wrong_gains := _
    F_law_wrong_gains := fun_mk (st := s_law_wrong_gains) l_law_wrong_gains c_law_wrong_gains k_law_wrong_gains
    m_law_wrong_gains := PySem.W.mg_of X G a_law_wrong_gains
    a_law_checked := f_law_checked
    d_law_checked := _
    F_law_checked := fun_mk (st := s_law_checked) l_law_checked c_law_checked k_law_checked
    m_law_checked := PySem.W.mg_of X G a_law_checked
    alaw := fa
    dlaw := _
    Flaw := fun_mk (st := slaw) llaw claw klaw
    mlaw := PySem.W.mg_of X G alaw }
  refine ⟨T.dlaw, fun s v => .of_eq rfl, fun base _ _ => ?_⟩
  let EX : Exs K mg := {
    c_ControlError := c_ControlError
    g_ControlError := PySem.W.mg_of X G g_ControlError
    c_InvalidExpression := c_InvalidExpression
    g_InvalidExpression := PySem.W.mg_of X G g_InvalidExpression
    c_InvalidPlant := c_InvalidPlant
    g_InvalidPlant := PySem.W.mg_of X G g_InvalidPlant
    c_InvalidArena := c_InvalidArena
    g_InvalidArena := PySem.W.mg_of X G g_InvalidArena
    c_InvalidGoal := c_InvalidGoal
    g_InvalidGoal := PySem.W.mg_of X G g_InvalidGoal
    c_BadText := c_BadText
    g_BadText := PySem.W.mg_of X G g_BadText
    c_NoPosition := c_NoPosition
    g_NoPosition := PySem.W.mg_of X G g_NoPosition
    c_Held := c_Held
    g_Held := PySem.W.mg_of X G g_Held
    c_NotHeld := c_NotHeld
    g_NotHeld := PySem.W.mg_of X G g_NotHeld
    c_BadReply := c_BadReply
    g_BadReply := PySem.W.mg_of X G g_BadReply
    c_Lost := c_Lost
    g_Lost := PySem.W.mg_of X G g_Lost
    x := ex_x
    k := ex_k
    b := ex_b
    sV := ex_sV
    bC := ex_bC
    ec := ⟨ex_hg, ex_hk, ex_b, ex_hd, ex_ha, ex_hn, ex_ht, ex_hm⟩
    i_ControlError := i_ControlError
    t_ControlError := t_ControlError
    s_ControlError := s_ControlError
    i_InvalidExpression := i_InvalidExpression
    t_InvalidExpression := t_InvalidExpression
    s_InvalidExpression := s_InvalidExpression
    i_InvalidPlant := i_InvalidPlant
    t_InvalidPlant := t_InvalidPlant
    s_InvalidPlant := s_InvalidPlant
    i_InvalidArena := i_InvalidArena
    t_InvalidArena := t_InvalidArena
    s_InvalidArena := s_InvalidArena
    i_InvalidGoal := i_InvalidGoal
    t_InvalidGoal := t_InvalidGoal
    s_InvalidGoal := s_InvalidGoal
    i_BadText := i_BadText
    t_BadText := t_BadText
    s_BadText := s_BadText
    i_NoPosition := i_NoPosition
    t_NoPosition := t_NoPosition
    s_NoPosition := s_NoPosition
    i_Held := i_Held
    t_Held := t_Held
    s_Held := s_Held
    i_NotHeld := i_NotHeld
    t_NotHeld := t_NotHeld
    s_NotHeld := s_NotHeld
    i_BadReply := i_BadReply
    t_BadReply := t_BadReply
    s_BadReply := s_BadReply
    i_Lost := i_Lost
    t_Lost := t_Lost
    s_Lost := s_Lost }
  exact ok_law T EX
end NL
open PySem PySem.W PyProof.Rows
set_option maxRecDepth 100000 in
set_option maxHeartbeats 0 in
theorem PySem.Challenge.cw_neverleaves_k41_right_goals_holds : PySem.Challenge.rw_neverleaves_k41_right_goals.Holds := by
  w_on; o_law; k_head; (case hw => w_witness2)
  k_fill
  refine L2.walk_of (l := PySem.Challenge.rw_neverleaves_k41_right_goals) (n := 63) (k := 5) (x := "script") (CX := fun _ => L2.CX0) (sp := fun w => NL.spLaw _) rfl (by decide) rfl ⟨rfl, by decide, by decide⟩ (fun w h Y => PySem.W.kIn_of Y) ?F (fun _ _ a ns hl _ hS => ⟨a, ns, rfl, hS, hl, fun _ => rfl⟩) (fun _ _ _ _ _ h => h)
  case F =>
    intro w mg fa h KX G hmg
    refine' NL.all_mk KX G hmg ?acheck_goal ?lcheck_goal ?ccheck_goal ?kcheck_goal ?ais_ascending ?lis_ascending ?cis_ascending ?kis_ascending ?a_law_draws ?l_law_draws ?c_law_draws ?k_law_draws ?a_law_take ?l_law_take ?c_law_take ?k_law_take ?a_law_cell ?l_law_cell ?c_law_cell ?k_law_cell ?a_law_option ?l_law_option ?c_law_option ?k_law_option ?a_law_arena ?l_law_arena ?c_law_arena ?k_law_arena ?a_law_colours ?l_law_colours ?c_law_colours ?k_law_colours ?a_law_class ?l_law_class ?c_law_class ?k_law_class ?a_law_only ?l_law_only ?c_law_only ?k_law_only ?a_law_places ?l_law_places ?c_law_places ?k_law_places ?a_law_wrong_places ?l_law_wrong_places ?c_law_wrong_places ?k_law_wrong_places ?a_law_wrong_colours ?l_law_wrong_colours ?c_law_wrong_colours ?k_law_wrong_colours ?a_law_moved ?l_law_moved ?c_law_moved ?k_law_moved ?a_law_wrong_gains ?l_law_wrong_gains ?c_law_wrong_gains ?k_law_wrong_gains ?a_law_checked ?l_law_checked ?c_law_checked ?k_law_checked ?alaw ?llaw ?claw ?klaw ?g_ControlError ?g_InvalidExpression ?g_InvalidPlant ?g_InvalidArena ?g_InvalidGoal ?g_BadText ?g_NoPosition ?g_Held ?g_NotHeld ?g_BadReply ?g_Lost ?ex_x ?ex_k ?ex_b ?ex_sV ?ex_bC ?ex_hg ?ex_hk ?ex_hd ?ex_ha ?ex_hn ?ex_ht ?ex_hm ?i_ControlError ?t_ControlError ?s_ControlError ?i_InvalidExpression ?t_InvalidExpression ?s_InvalidExpression ?i_InvalidPlant ?t_InvalidPlant ?s_InvalidPlant ?i_InvalidArena ?t_InvalidArena ?s_InvalidArena ?i_InvalidGoal ?t_InvalidGoal ?s_InvalidGoal ?i_BadText ?t_BadText ?s_BadText ?i_NoPosition ?t_NoPosition ?s_NoPosition ?i_Held ?t_Held ?s_Held ?i_NotHeld ?t_NotHeld ?s_NotHeld ?i_BadReply ?t_BadReply ?s_BadReply ?i_Lost ?t_Lost ?s_Lost ?z_ValueError ?z_abs ?z_any ?z_int ?z_isinstance ?z_len ?z_list ?z_max ?z_range ?z_sorted ?z_tuple ?z_zip
    (case acheck_goal => k_is); (case lcheck_goal => k_is); (case ccheck_goal => k_is); (case kcheck_goal => k_is)
    (case ais_ascending => k_is); (case lis_ascending => k_is); (case cis_ascending => k_is); (case kis_ascending => k_is)
    (case a_law_draws => k_is); (case l_law_draws => k_is); (case c_law_draws => k_is); (case k_law_draws => k_is)
    (case a_law_take => k_is); (case l_law_take => k_is); (case c_law_take => k_is); (case k_law_take => k_is)
    (case a_law_cell => k_is); (case l_law_cell => k_is); (case c_law_cell => k_is); (case k_law_cell => k_is)
    (case a_law_option => k_is); (case l_law_option => k_is); (case c_law_option => k_is); (case k_law_option => k_is)
    (case a_law_arena => k_is); (case l_law_arena => k_is); (case c_law_arena => k_is); (case k_law_arena => k_is)
    (case a_law_colours => k_is); (case l_law_colours => k_is); (case c_law_colours => k_is); (case k_law_colours => k_is)
    (case a_law_class => k_is); (case l_law_class => k_is); (case c_law_class => k_is); (case k_law_class => k_is)
    (case a_law_only => k_is); (case l_law_only => k_is); (case c_law_only => k_is); (case k_law_only => k_is)
    (case a_law_places => k_is); (case l_law_places => k_is); (case c_law_places => k_is); (case k_law_places => k_is)
    (case a_law_wrong_places => k_is); (case l_law_wrong_places => k_is); (case c_law_wrong_places => k_is); (case k_law_wrong_places => k_is)
    (case a_law_wrong_colours => k_is); (case l_law_wrong_colours => k_is); (case c_law_wrong_colours => k_is); (case k_law_wrong_colours => k_is)
    (case a_law_moved => k_is); (case l_law_moved => k_is); (case c_law_moved => k_is); (case k_law_moved => k_is)
    (case a_law_wrong_gains => k_is); (case l_law_wrong_gains => k_is); (case c_law_wrong_gains => k_is); (case k_law_wrong_gains => k_is)
    (case a_law_checked => k_is); (case l_law_checked => k_is); (case c_law_checked => k_is); (case k_law_checked => k_is)
    (case alaw => k_is); (case llaw => k_is); (case claw => k_is); (case klaw => k_is)
    (case g_ControlError => k_is)
    (case g_InvalidExpression => k_is)
    (case g_InvalidPlant => k_is)
    (case g_InvalidArena => k_is)
    (case g_InvalidGoal => k_is)
    (case g_BadText => k_is)
    (case g_NoPosition => k_is)
    (case g_Held => k_is)
    (case g_NotHeld => k_is)
    (case g_BadReply => k_is)
    (case g_Lost => k_is)
    (case i_ControlError => k_is); (case t_ControlError => k_is); (case s_ControlError => first | rfl | k_is)
    (case i_InvalidExpression => k_is); (case t_InvalidExpression => k_is); (case s_InvalidExpression => first | rfl | k_is)
    (case i_InvalidPlant => k_is); (case t_InvalidPlant => k_is); (case s_InvalidPlant => first | rfl | k_is)
    (case i_InvalidArena => k_is); (case t_InvalidArena => k_is); (case s_InvalidArena => first | rfl | k_is)
    (case i_InvalidGoal => k_is); (case t_InvalidGoal => k_is); (case s_InvalidGoal => first | rfl | k_is)
    (case i_BadText => k_is); (case t_BadText => k_is); (case s_BadText => first | rfl | k_is)
    (case i_NoPosition => k_is); (case t_NoPosition => k_is); (case s_NoPosition => first | rfl | k_is)
    (case i_Held => k_is); (case t_Held => k_is); (case s_Held => first | rfl | k_is)
    (case i_NotHeld => k_is); (case t_NotHeld => k_is); (case s_NotHeld => first | rfl | k_is)
    (case i_BadReply => k_is); (case t_BadReply => k_is); (case s_BadReply => first | rfl | k_is)
    (case i_Lost => k_is); (case t_Lost => k_is); (case s_Lost => first | rfl | k_is)
    (case ex_x => k_exc)
    (case ex_k => k_is); (case ex_b => k_is); (case ex_sV => k_is); (case ex_bC => k_is); (case ex_hg => k_is); (case ex_hk => k_is); (case ex_hd => k_is); (case ex_ha => k_is); (case ex_hn => first | rfl | decide +kernel | k_is); (case ex_ht => first | rfl | decide +kernel | k_is); (case ex_hm => k_is)
    (case z_ValueError => k_is)
    (case z_abs => k_is)
    (case z_any => k_is)
    (case z_int => k_is)
    (case z_isinstance => k_is)
    (case z_len => k_is)
    (case z_list => k_is)
    (case z_max => k_is)
    (case z_range => k_is)
    (case z_sorted => k_is)
    (case z_tuple => k_is)
    (case z_zip => k_is)
