import PyProof.Rows.All
import Wide.All
import OpenK.AllK
import Wide.FinOn
import HandS.ForExc
import HandS.ForMost
import HandS.TupAny
import HandS.IsInst
import HandS.Codes
import HandS.FStr
import HandS.Zip
import HandS.TupSets
import HandS.SetFor
import HandS.Strs
import HandS.HotCalls
import HandS.ExcIs
import HandS.ExcCtx
import HandS.More
import HandS.Text
import HandS.ExcInitHot
import HandS.ExcField
import KE.KExcIs
import HandS.Conv
import HandS.TupLe
import KE.KxIndex
import PySem.Challenge.RW_neverleaves_k40_right_arenas
set_option Elab.async false
set_option linter.all false
set_option maxRecDepth 100000

namespace NL
open PySem PySem.Spec PyProof.Rows L2
def topS (i : Nat) : Stmt := PySem.Challenge.pw_neverleaves_k40_right_arenas.main.body.getD i (.Pass ⟨0, 0, 0, 0⟩)
abbrev scheck_arena : Stmt := topS 13
abbrev Ncheck_arena : List Str := ["arena", "options", "option"]
abbrev Pcheck_arena : List Str := ["arena"]
theorem sccheck_arena : FnScope Ncheck_arena Pcheck_arena (defScope scheck_arena) := ⟨rfl, rfl, rfl, by decide +kernel, rfl, by decide +kernel, by decide +kernel⟩
abbrev sis_ascending : Stmt := topS 14
abbrev Nis_ascending : List Str := ["numbers", "low", "end", "least", "number"]
abbrev Pis_ascending : List Str := ["numbers", "low", "end"]
theorem scis_ascending : FnScope Nis_ascending Pis_ascending (defScope sis_ascending) := ⟨rfl, rfl, rfl, by decide +kernel, rfl, by decide +kernel, by decide +kernel⟩
abbrev s_law_draws : Stmt := topS 16
abbrev N_law_draws : List Str := ["script", "many", "cells", "cell", "rest", "draws", "k", "at", "once"]
abbrev P_law_draws : List Str := ["script", "many"]
theorem sc_law_draws : FnScope N_law_draws P_law_draws (defScope s_law_draws) := ⟨rfl, rfl, rfl, by decide +kernel, rfl, by decide +kernel, by decide +kernel⟩
abbrev s_law_take : Stmt := topS 17
abbrev N_law_take : List Str := ["draws", "many"]
abbrev P_law_take : List Str := ["draws", "many"]
theorem sc_law_take : FnScope N_law_take P_law_take (defScope s_law_take) := ⟨rfl, rfl, rfl, by decide +kernel, rfl, by decide +kernel, by decide +kernel⟩
abbrev s_law_cell : Stmt := topS 18
abbrev N_law_cell : List Str := ["script", "draws"]
abbrev P_law_cell : List Str := ["script", "draws"]
theorem sc_law_cell : FnScope N_law_cell P_law_cell (defScope s_law_cell) := ⟨rfl, rfl, rfl, by decide +kernel, rfl, by decide +kernel, by decide +kernel⟩
abbrev s_law_option : Stmt := topS 19
abbrev N_law_option : List Str := ["draws", "count", "k", "shape", "found", "i", "successor"]
abbrev P_law_option : List Str := ["draws", "count", "k", "shape"]
theorem sc_law_option : FnScope N_law_option P_law_option (defScope s_law_option) := ⟨rfl, rfl, rfl, by decide +kernel, rfl, by decide +kernel, by decide +kernel⟩
abbrev s_law_arena : Stmt := topS 20
abbrev N_law_arena : List Str := ["draws", "most", "count", "shape", "arena", "k", "many", "j", "at", "more", "every"]
abbrev P_law_arena : List Str := ["draws", "most"]
theorem sc_law_arena : FnScope N_law_arena P_law_arena (defScope s_law_arena) := ⟨rfl, rfl, rfl, by decide +kernel, rfl, by decide +kernel, by decide +kernel⟩
abbrev s_law_class : Stmt := topS 21
abbrev N_law_class : List Str := ["e", "found"]
abbrev P_law_class : List Str := ["e"]
theorem sc_law_class : FnScope N_law_class P_law_class (defScope s_law_class) := ⟨rfl, rfl, rfl, by decide +kernel, rfl, by decide +kernel, by decide +kernel⟩
abbrev s_law_only : Stmt := topS 22
abbrev N_law_only : List Str := ["at", "k"]
abbrev P_law_only : List Str := ["at"]
theorem sc_law_only : FnScope N_law_only P_law_only (defScope s_law_only) := ⟨rfl, rfl, rfl, by decide +kernel, rfl, by decide +kernel, by decide +kernel⟩
abbrev s_law_disorder : Stmt := topS 23
abbrev N_law_disorder : List Str := ["draws", "count", "rising", "k", "at"]
abbrev P_law_disorder : List Str := ["draws", "count"]
theorem sc_law_disorder : FnScope N_law_disorder P_law_disorder (defScope s_law_disorder) := ⟨rfl, rfl, rfl, by decide +kernel, rfl, by decide +kernel, by decide +kernel⟩
abbrev s_law_wrong_option : Stmt := topS 24
abbrev N_law_wrong_option : List Str := ["draws", "script", "count", "kind", "place", "far"]
abbrev P_law_wrong_option : List Str := ["draws", "script", "count"]
theorem sc_law_wrong_option : FnScope N_law_wrong_option P_law_wrong_option (defScope s_law_wrong_option) := ⟨rfl, rfl, rfl, by decide +kernel, rfl, by decide +kernel, by decide +kernel⟩
abbrev s_law_checked : Stmt := topS 25
abbrev N_law_checked : List Str := ["arena", "answer", "e"]
abbrev P_law_checked : List Str := ["arena"]
theorem sc_law_checked : FnScope N_law_checked P_law_checked (defScope s_law_checked) := ⟨rfl, rfl, rfl, by decide +kernel, rfl, by decide +kernel, by decide +kernel⟩
abbrev slaw : Stmt := topS 26
abbrev Nlaw : List Str := ["script", "draws", "arena", "at", "place", "wrong", "options"]
abbrev Plaw : List Str := ["script"]
theorem sclaw : FnScope Nlaw Plaw (defScope slaw) := ⟨rfl, rfl, rfl, by decide +kernel, rfl, by decide +kernel, by decide +kernel⟩
def KT (K : PySem.W.Frag) (a : Addr) (ys : List V) : Prop := ∃ o its n, List.lookup a K = some o ∧ o.cls = .type "tuple" ∧ o.data = .seq its n ∧ its.size ≤ sizeLine ∧ L2.Vals ys its.toList
theorem kt_mk {K : PySem.W.Frag} {a : Addr} {ys : List V} {o : Obj} {its : Array Value} {n : Nat} (h1 : List.lookup a K = some o) (h2 : o.cls = .type "tuple") (h3 : o.data = .seq its n) (h4 : its.size ≤ sizeLine) (h5 : L2.Vals ys its.toList) : KT K a ys := ⟨o, its, n, h1, h2, h3, h4, h5⟩
structure Txt (K : PySem.W.Frag) (mg : Str → Option Value) where
  z_ValueError : mg "ValueError" = none
  z_abs : mg "abs" = none
  z_int : mg "int" = none
  z_isinstance : mg "isinstance" = none
  z_len : mg "len" = none
  z_list : mg "list" = none
  z_max : mg "max" = none
  z_range : mg "range" = none
  z_set : mg "set" = none
  z_sorted : mg "sorted" = none
  z_tuple : mg "tuple" = none
  acheck_arena : Addr
  dcheck_arena : FuncData
  Fcheck_arena : Fun K "check_arena" "check_arena" scheck_arena acheck_arena dcheck_arena
  mcheck_arena : mg "check_arena" = some (.ref acheck_arena)
  ais_ascending : Addr
  dis_ascending : FuncData
  Fis_ascending : Fun K "is_ascending" "is_ascending" sis_ascending ais_ascending dis_ascending
  mis_ascending : mg "is_ascending" = some (.ref ais_ascending)
  a_law_draws : Addr
  d_law_draws : FuncData
  F_law_draws : Fun K "_law_draws" "_law_draws" s_law_draws a_law_draws d_law_draws
  m_law_draws : mg "_law_draws" = some (.ref a_law_draws)
  a_law_take : Addr
  d_law_take : FuncData
  F_law_take : Fun K "_law_take" "_law_take" s_law_take a_law_take d_law_take
  m_law_take : mg "_law_take" = some (.ref a_law_take)
  a_law_cell : Addr
  d_law_cell : FuncData
  F_law_cell : Fun K "_law_cell" "_law_cell" s_law_cell a_law_cell d_law_cell
  m_law_cell : mg "_law_cell" = some (.ref a_law_cell)
  a_law_option : Addr
  d_law_option : FuncData
  F_law_option : Fun K "_law_option" "_law_option" s_law_option a_law_option d_law_option
  m_law_option : mg "_law_option" = some (.ref a_law_option)
  a_law_arena : Addr
  d_law_arena : FuncData
  F_law_arena : Fun K "_law_arena" "_law_arena" s_law_arena a_law_arena d_law_arena
  m_law_arena : mg "_law_arena" = some (.ref a_law_arena)
  a_law_class : Addr
  d_law_class : FuncData
  F_law_class : Fun K "_law_class" "_law_class" s_law_class a_law_class d_law_class
  m_law_class : mg "_law_class" = some (.ref a_law_class)
  a_law_only : Addr
  d_law_only : FuncData
  F_law_only : Fun K "_law_only" "_law_only" s_law_only a_law_only d_law_only
  m_law_only : mg "_law_only" = some (.ref a_law_only)
  a_law_disorder : Addr
  d_law_disorder : FuncData
  F_law_disorder : Fun K "_law_disorder" "_law_disorder" s_law_disorder a_law_disorder d_law_disorder
  m_law_disorder : mg "_law_disorder" = some (.ref a_law_disorder)
  a_law_wrong_option : Addr
  d_law_wrong_option : FuncData
  F_law_wrong_option : Fun K "_law_wrong_option" "_law_wrong_option" s_law_wrong_option a_law_wrong_option d_law_wrong_option
  m_law_wrong_option : mg "_law_wrong_option" = some (.ref a_law_wrong_option)
  a_law_checked : Addr
  d_law_checked : FuncData
  F_law_checked : Fun K "_law_checked" "_law_checked" s_law_checked a_law_checked d_law_checked
  m_law_checked : mg "_law_checked" = some (.ref a_law_checked)
  alaw : Addr
  dlaw : FuncData
  Flaw : Fun K "law" "law" slaw alaw dlaw
  mlaw : mg "law" = some (.ref alaw)
structure Exs (K : PySem.W.Frag) (mg : Str → Option Value) where
  c_ControlError : Addr
  g_ControlError : mg "ControlError" = some (.ref c_ControlError)
  c_InvalidExpression : Addr
  g_InvalidExpression : mg "InvalidExpression" = some (.ref c_InvalidExpression)
  c_InvalidPlant : Addr
  g_InvalidPlant : mg "InvalidPlant" = some (.ref c_InvalidPlant)
  c_InvalidArena : Addr
  g_InvalidArena : mg "InvalidArena" = some (.ref c_InvalidArena)
  c_InvalidGoal : Addr
  g_InvalidGoal : mg "InvalidGoal" = some (.ref c_InvalidGoal)
  c_BadText : Addr
  g_BadText : mg "BadText" = some (.ref c_BadText)
  c_NoPosition : Addr
  g_NoPosition : mg "NoPosition" = some (.ref c_NoPosition)
  c_Held : Addr
  g_Held : mg "Held" = some (.ref c_Held)
  c_NotHeld : Addr
  g_NotHeld : mg "NotHeld" = some (.ref c_NotHeld)
  c_BadReply : Addr
  g_BadReply : mg "BadReply" = some (.ref c_BadReply)
  c_Lost : Addr
  g_Lost : mg "Lost" = some (.ref c_Lost)
  x : PySem.W.excIn K c_InvalidArena [.type "ValueError", .type "Exception", .type "BaseException", .type "object"] "ValueError.__new__" = true
  k : PySem.W.keepIn K (.ref c_InvalidArena) = true
  b : PySem.W.subIn K (.ref c_InvalidArena) (.type "BaseException") = some true
  sV : PySem.W.subIn K (.ref c_InvalidArena) (.type "ValueError") = some true
  bC : PySem.W.subIn K (.ref c_ControlError) (.type "BaseException") = some true
  ec : ExcC K c_InvalidArena
  i_ControlError : PySem.W.isClsIn K c_ControlError = true
  t_ControlError : PySem.W.typeIn K (.ref c_ControlError) = some (.type "type")
  s_ControlError : PySem.W.subIn K (.ref c_InvalidArena) (.ref c_ControlError) = some true
  i_InvalidExpression : PySem.W.isClsIn K c_InvalidExpression = true
  t_InvalidExpression : PySem.W.typeIn K (.ref c_InvalidExpression) = some (.type "type")
  s_InvalidExpression : PySem.W.subIn K (.ref c_InvalidArena) (.ref c_InvalidExpression) = some false
  i_InvalidPlant : PySem.W.isClsIn K c_InvalidPlant = true
  t_InvalidPlant : PySem.W.typeIn K (.ref c_InvalidPlant) = some (.type "type")
  s_InvalidPlant : PySem.W.subIn K (.ref c_InvalidArena) (.ref c_InvalidPlant) = some false
  i_InvalidArena : PySem.W.isClsIn K c_InvalidArena = true
  t_InvalidArena : PySem.W.typeIn K (.ref c_InvalidArena) = some (.type "type")
  s_InvalidArena : PySem.W.subIn K (.ref c_InvalidArena) (.ref c_InvalidArena) = some true
  i_InvalidGoal : PySem.W.isClsIn K c_InvalidGoal = true
  t_InvalidGoal : PySem.W.typeIn K (.ref c_InvalidGoal) = some (.type "type")
  s_InvalidGoal : PySem.W.subIn K (.ref c_InvalidArena) (.ref c_InvalidGoal) = some false
  i_BadText : PySem.W.isClsIn K c_BadText = true
  t_BadText : PySem.W.typeIn K (.ref c_BadText) = some (.type "type")
  s_BadText : PySem.W.subIn K (.ref c_InvalidArena) (.ref c_BadText) = some false
  i_NoPosition : PySem.W.isClsIn K c_NoPosition = true
  t_NoPosition : PySem.W.typeIn K (.ref c_NoPosition) = some (.type "type")
  s_NoPosition : PySem.W.subIn K (.ref c_InvalidArena) (.ref c_NoPosition) = some false
  i_Held : PySem.W.isClsIn K c_Held = true
  t_Held : PySem.W.typeIn K (.ref c_Held) = some (.type "type")
  s_Held : PySem.W.subIn K (.ref c_InvalidArena) (.ref c_Held) = some false
  i_NotHeld : PySem.W.isClsIn K c_NotHeld = true
  t_NotHeld : PySem.W.typeIn K (.ref c_NotHeld) = some (.type "type")
  s_NotHeld : PySem.W.subIn K (.ref c_InvalidArena) (.ref c_NotHeld) = some false
  i_BadReply : PySem.W.isClsIn K c_BadReply = true
  t_BadReply : PySem.W.typeIn K (.ref c_BadReply) = some (.type "type")
  s_BadReply : PySem.W.subIn K (.ref c_InvalidArena) (.ref c_BadReply) = some false
  i_Lost : PySem.W.isClsIn K c_Lost = true
  t_Lost : PySem.W.typeIn K (.ref c_Lost) = some (.type "type")
  s_Lost : PySem.W.subIn K (.ref c_InvalidArena) (.ref c_Lost) = some false
theorem Txt.bcheck_arena {K : PySem.W.Frag} {mg : Str → Option Value} (T : Txt K mg) : Binds K T.dcheck_arena Pcheck_arena [] := T.Fcheck_arena.binds fun _ _ _ _ _ _ us hl => match us, hl with | [_], _ => rfl
theorem Txt.bis_ascending {K : PySem.W.Frag} {mg : Str → Option Value} (T : Txt K mg) : Binds K T.dis_ascending Pis_ascending [] := T.Fis_ascending.binds fun _ _ _ _ _ _ us hl => match us, hl with | [_, _, _], _ => rfl
theorem Txt.b_law_draws {K : PySem.W.Frag} {mg : Str → Option Value} (T : Txt K mg) : Binds K T.d_law_draws P_law_draws [] := T.F_law_draws.binds fun _ _ _ _ _ _ us hl => match us, hl with | [_, _], _ => rfl
theorem Txt.b_law_take {K : PySem.W.Frag} {mg : Str → Option Value} (T : Txt K mg) : Binds K T.d_law_take P_law_take [] := T.F_law_take.binds fun _ _ _ _ _ _ us hl => match us, hl with | [_, _], _ => rfl
theorem Txt.b_law_cell {K : PySem.W.Frag} {mg : Str → Option Value} (T : Txt K mg) : Binds K T.d_law_cell P_law_cell [] := T.F_law_cell.binds fun _ _ _ _ _ _ us hl => match us, hl with | [_, _], _ => rfl
theorem Txt.b_law_option {K : PySem.W.Frag} {mg : Str → Option Value} (T : Txt K mg) : Binds K T.d_law_option P_law_option [] := T.F_law_option.binds fun _ _ _ _ _ _ us hl => match us, hl with | [_, _, _, _], _ => rfl
theorem Txt.b_law_arena {K : PySem.W.Frag} {mg : Str → Option Value} (T : Txt K mg) : Binds K T.d_law_arena P_law_arena [] := T.F_law_arena.binds fun _ _ _ _ _ _ us hl => match us, hl with | [_, _], _ => rfl
theorem Txt.b_law_class {K : PySem.W.Frag} {mg : Str → Option Value} (T : Txt K mg) : Binds K T.d_law_class P_law_class [] := T.F_law_class.binds fun _ _ _ _ _ _ us hl => match us, hl with | [_], _ => rfl
theorem Txt.b_law_only {K : PySem.W.Frag} {mg : Str → Option Value} (T : Txt K mg) : Binds K T.d_law_only P_law_only [] := T.F_law_only.binds fun _ _ _ _ _ _ us hl => match us, hl with | [_], _ => rfl
theorem Txt.b_law_disorder {K : PySem.W.Frag} {mg : Str → Option Value} (T : Txt K mg) : Binds K T.d_law_disorder P_law_disorder [] := T.F_law_disorder.binds fun _ _ _ _ _ _ us hl => match us, hl with | [_, _], _ => rfl
theorem Txt.b_law_wrong_option {K : PySem.W.Frag} {mg : Str → Option Value} (T : Txt K mg) : Binds K T.d_law_wrong_option P_law_wrong_option [] := T.F_law_wrong_option.binds fun _ _ _ _ _ _ us hl => match us, hl with | [_, _, _], _ => rfl
theorem Txt.b_law_checked {K : PySem.W.Frag} {mg : Str → Option Value} (T : Txt K mg) : Binds K T.d_law_checked P_law_checked [] := T.F_law_checked.binds fun _ _ _ _ _ _ us hl => match us, hl with | [_], _ => rfl
theorem Txt.blaw {K : PySem.W.Frag} {mg : Str → Option Value} (T : Txt K mg) : Binds K T.dlaw Plaw [] := T.Flaw.binds fun _ _ _ _ _ _ us hl => match us, hl with | [_], _ => rfl
end NL

set_option maxHeartbeats 4000000
namespace NL
open PySem PySem.Spec PyProof.Rows L2 L2H HotX
/-! ### where an exception is handled: a range walked in a comprehension -/
structure TurnG (P : Program) (w : World) (K : PySem.W.Frag) (tg : Expr) (J : L2.It) (fp : List Addr) (it : Addr) (tn : Nat → Heap → Prop) : Prop where
  mem : it ∈ fp
  obj : ∀ i h, tn i h → ∀ b ∈ fp, ∃ o, h.get? b = some o ∧ ∀ v, o.data ≠ .cell v
  keep : ∀ i h h', tn i h → (∀ b ∈ fp, ∀ o, h.get? b = some o → h'.get? b = some o) → tn i h'
  item : ∀ (X : Cx), X.prog = P → X.w = w → X.K = K → ∀ (i : Nat) (pins : List (Addr × Obj)) (s : Shared) (σ : L2.St) (H : Hp) (E : Value → Shared → Prop), Inv X pins σ H s → (∀ b ∈ fp, FpOk X pins H b) → tn i s.heap → J.go i H →
    wpAny (model P w) X.A (pyNext (.ref it)) (fun r s1 => ∃ u, r = some u ∧
      wpAny (model P w) X.A (letOwnedTupleGo tg (.ref it) u) (fun _ s2 => ∃ x H', Inv X pins σ H' s2 ∧ RelV x u ∧ J.yld i H x H' ∧ tn (i + 1) s2.heap ∧ ∀ b ∈ fp, H' b = none) E s1) E s
  done : ∀ (X : Cx), X.prog = P → X.w = w → X.K = K → ∀ (i : Nat) (pins : List (Addr × Obj)) (s : Shared) (σ : L2.St) (H : Hp) (E : Value → Shared → Prop), (∃ x1, HotAt X.A x1 s.heap) → Inv X pins σ H s → (∀ b ∈ fp, FpOk X pins H b) → tn i s.heap → J.stop i H →
    wpAny (model P w) X.A (pyNext (.ref it)) (fun r s1 => r = none ∧ Inv X pins σ H s1) E s
  self : ∀ (A : Around) (i : Nat) (s : Shared) (Q : Value → Shared → Prop) (E : Value → Shared → Prop), tn i s.heap → Q (.ref it) s → wpAny (model P w) A (pyIter (.ref it)) Q E s
theorem turn_rangeG {P : Program} {w : World} {K : PySem.W.Frag} {tg : Expr} (it : Addr) (lo : Int) (n : Nat) : TurnG P w K tg (Itr lo n) [it] it (fun i h => IsRangeIter h it (lo + (i : Nat) * 1) ((n : Int) - (i : Nat)) 1) where
  mem := by simp
  obj := fun i h st b hb => by
    have e : b = it := by simpa using hb
    subst e
    exact ⟨_, st, fun v z => by
      have z' : Data.fields _ = Data.cell v := z
      cases z'⟩
  keep := fun i h h' st k => k it (by simp) _ st
  item := by
    intro X hP hw hK i pins s σ H E I hf st hg
    subst hP hw hK
    obtain ⟨f0, f1, f2, f3, f4, f5⟩ := hf it (by simp)
    have hlt : i < n := hg
    refine wpAny_pyNext_range_item st (by omega) fun h' st' sb => ?_
    have st2 : IsRangeIter h' it (lo + ((i + 1 : Nat) : Int) * 1) ((n : Int) - ((i + 1 : Nat) : Int)) 1 := by
      have e1 : lo + ((i : Nat) : Int) * 1 + 1 = lo + ((i + 1 : Nat) : Int) * 1 := by omega
      have e2 : (n : Int) - ((i : Nat) : Int) - 1 = (n : Int) - ((i + 1 : Nat) : Int) := by omega
      rw [← e1, ← e2]
      exact st'
    have I1 : Inv X pins σ H { s with heap := h', toks := s.toks + 1 } := I.turned (fun b o hb e => (sb.2 b hb).trans e) f0 f1 f3 f4 f5
    refine ⟨_, rfl, go_of (s := { s with heap := h', toks := s.toks + 1 }) (n := "range_iterator") st2 rfl rfl (by decide) ⟨.int (lo + i), H, I1, ⟨s.toks, ?_⟩, ⟨rfl, rfl⟩, st2, fun b hb => (hf b hb).1⟩⟩
    rw [Int.mul_one]
  done := by
    intro X hP hw hK i pins s σ H E hc I hf st hg
    subst hP hw hK
    obtain ⟨f0, f1, f2, f3, f4, f5⟩ := hf it (by simp)
    obtain ⟨x1, hot⟩ := hc
    exact pyNext_range_end_hot hot st (by have : n ≤ i := hg; omega) fun h' eb => ⟨rfl, I.turned (t' := s.toks) (fun b o _ e => eb b o e) f0 f1 f3 f4 f5⟩
  self := fun _ _ _ _ _ st h => wpAny_pyIter_rangeiter st h
def PIEG (X : Cx) (pins : List (Addr × Obj)) (σ : L2.St) (tg : Expr) (R : L2.It → Hp → Prop) (itv : Value) (s2 : Shared) : Prop :=
  ∃ (it : Addr) (fp : List Addr) (tn : Nat → Heap → Prop) (J : L2.It) (H' : Hp), itv = .ref it ∧ Inv X pins σ H' s2 ∧ TurnG X.prog X.w X.K tg J fp it tn ∧ tn 0 s2.heap ∧ (∀ b ∈ fp, FpOk X pins H' b) ∧ R J H'
structure PIG (X : Cx) (tg iter : Expr) (wi : TI) : Prop where
  run : ∀ (pins : List (Addr × Obj)) (s : Shared) (σ : L2.St) (H : Hp) (R : L2.It → Hp → Prop), Inv X pins σ H s → wi σ H R →
    wpAny (model X.prog X.w) X.A (eval iter X.env) (fun v s1 => wpAny (model X.prog X.w) X.A (pyIter v) (PIEG X pins σ tg R) X.xe s1) X.xe s
section
variable {X : Cx} {tg : Expr}
theorem range_itG {pins : List (Addr × Obj)} {σ : L2.St} {H : Hp} {s : Shared} {R : L2.It → Hp → Prop} {E : Value → Shared → Prop} {lo hi : Int} {t u v : Tok} {tk : Nat} (I : Inv X pins σ H s) (h1 : -(2 ^ 62) ≤ lo) (h2 : lo < 2 ^ 62) (h3 : -(2 ^ 62) ≤ hi) (h4 : hi < 2 ^ 62)
    (q : R (Itr lo (hi - lo).toNat) H) : wpAny (model X.prog X.w) X.A (pyIter (.ref s.heap.objs.size)) (PIEG X pins σ tg R) E { s with heap := s.heap.push { cls := .type "range", data := .fields #[.int lo t, .int hi u, .int 1 v] }, toks := tk } := by
  refine wpAny_pyIter_range (IsRange.new ..) (small_one h1 h2 h3 h4) ?_
  have I1 : Inv X pins σ H { s with heap := s.heap.push { cls := .type "range", data := .fields #[.int lo t, .int hi u, .int 1 v] }, toks := tk } := I.kept fun b o e => Heap.get?_push_of_some _ e
  refine ⟨(s.heap.push { cls := .type "range", data := .fields #[.int lo t, .int hi u, .int 1 v] }).objs.size, [(s.heap.push { cls := .type "range", data := .fields #[.int lo t, .int hi u, .int 1 v] }).objs.size], _, _, H, rfl,
    I1.kept (t' := tk) fun b o e => Heap.get?_push_of_some _ e, turn_rangeG _ lo (hi - lo).toNat, ?_, fun b hb => ?_, q⟩
  · have e1 : lo + ((0 : Nat) : Int) * 1 = lo := by simp
    have e2 : (((hi - lo).toNat : Nat) : Int) - ((0 : Nat) : Int) = Builtin.Range.rangeSize lo hi 1 := by rw [rangeSize_one]; split <;> omega
    show IsRangeIter _ _ (lo + ((0 : Nat) : Int) * 1) ((((hi - lo).toNat : Nat) : Int) - ((0 : Nat) : Int)) 1
    rw [e1, e2]
    exact Heap.get?_push_size _ rfl
  · have e : b = (s.heap.push { cls := .type "range", data := .fields #[.int lo t, .int hi u, .int 1 v] }).objs.size := by simpa using hb
    subst e
    exact I1.fpOk (Nat.le_refl _) (I1.hok.fresh (Nat.le_refl _))
theorem pi_range1G {a : Expr} {ta : TA} {p pos : Pos} (hg : Gl X "range") (hm : X.mg "range" = none) (ha : PA X [a] ta) (hs : starEach [a] X.env = [(false, eval a X.env)] := by rfl) : PIG X tg (.Call (.Name "range" p) [a] [] pos) (iRng1 ta) := by
  refine ⟨fun pins s σ H R I h => ?_⟩
  refine Call_ (ld_blt I hg hm boot_range (PyProof.Rows.callWith_type1 (thn (ha.run pos pins s σ H _ I h) fun us s1 ⟨vs, H1, I1, r1, q1⟩ => ?_) hs rfl))
  obtain ⟨j, e, q1, q2, q⟩ := q1
  subst e
  cases r1 with
  | cons r rr =>
    cases rr
    obtain ⟨t, rfl⟩ := r
    exact call_range_1 (range_itG I1 (by omega) (by omega) q1 q2 (by simpa using q))
end
section
variable {X : Cx}
theorem lc_coreG {pins : List (Addr × Obj)} {s : Shared} {σ : L2.St} {H : Hp} {Q : VK} {elt tg iter : Expr} {ifs : List Expr} {scope : Scope} {own : List (Str × Nat)} {pos pos' : Pos} {wi : TI} {g : TG} {tt : TT} {te : TE} {use : Option (Value → Sem Unit)} {Qf : Value → Shared → Prop}
    (hc : HotC X) (hN : X.N.Nodup) (I : Inv X pins σ H s) (hi : PIG X tg iter wi) (ok : BlkOk X.N X.env.scope scope own)
    (hg : ∀ (s : Shared) (H : Hp) (C : Addr) (cl : List (Str × Addr)) (fp : List Addr), PG (X.blk s H scope (compEnvC scope cl C X.env) fp) tg g) (ht : ∀ (s : Shared) (H : Hp) (C : Addr) (cl : List (Str × Addr)) (fp : List Addr), PTs (X.blk s H scope (compEnvC scope cl C X.env) fp) ifs tt)
    (he : ∀ (s : Shared) (H : Hp) (C : Addr) (cl : List (Str × Addr)) (fp : List Addr), PE (X.blk s H scope (compEnvC scope cl C X.env) fp) elt te) (hs : ∀ x, foldedSetIterable iter X.env x = pure x)
    (h : tLc wi g tt te (own.map (·.2)) σ H Q)
    (hRR : ∀ D C s' m H', Inv X pins σ H' s' → Q (.ref D) H' → s'.heap.Ns C m → FpOk X pins H' C → compPost (model X.prog X.w) X.A X.xe use Qf (.ref D) C (.ok .next) s') :
    wpAny (model X.prog X.w) X.A (comprehension (.ListComp elt [⟨tg, iter, ifs, 0⟩] scope pos) scope X.env pos' (newList []) false (eval iter X.env) use) Qf X.xe s := by
  have hfree : ∀ y ∈ scope.names, y.2 = .free → ∃ c, X.env.cells.lookup y.1 = some c := fun y hy e => by
    rcases ok.free y hy e with k | k
    · exact I.ok.has _ (.inl k)
    · exact I.ok.has _ (.inr k)
  refine wpAny_comprehension_free (use := use) rfl hs (closure_ok hfree) ok.kind (fun y hy e => by rw [ok.uniq y hy, e])
    (thn (hi.run pins s σ H _ I h) fun xv s1 hx => thn hx fun itv s2 h2 => ?_)
  obtain ⟨it, fp, tn, J, H2, e, I2, T, st2, f2, q⟩ := h2
  subst e
  refine wpAny_newObj_type (newEnv_comp ?_) (by show 0 ≤ sizeLine; decide)
  generalize hD : s2.heap.objs.size = D
  have hDn : H2 D = none := I2.hok.fresh (Nat.le_of_eq hD)
  obtain ⟨W, ⟨m0, w0⟩, turn⟩ := q D hDn
  -- the new list
  generalize hs3 : ({ s2 with heap := s2.heap.push { cls := .type "list", data := .seq ([] : List Value).toArray } } : Shared) = s3
  have I3 : Inv X pins σ (upd H2 D (.lst [])) s3 := by
    rw [← hs3]
    refine I2.laid (t' := s2.toks) (fun b o e => Heap.get?_push_of_some _ e) (Nat.le_of_eq hD) ⟨Nat.zero_le _, [], 0, .nil, ?_⟩
    rw [← hD]
    exact Heap.get?_push_size _ rfl
  have h3 : s3.heap = s2.heap.push { cls := .type "list", data := .seq ([] : List Value).toArray } := by rw [← hs3]
  have sz : ∀ b ∈ fp, b < s2.heap.objs.size := fun b hb => by
    obtain ⟨o, e, _⟩ := T.obj _ _ st2 b hb
    exact Heap.lt_size e
  have f3 : ∀ b ∈ fp, FpOk X pins (upd H2 D (.lst [])) b ∧ b < s3.heap.objs.size := fun b hb => by
    have hlt := sz b hb
    refine ⟨⟨?_, (f2 b hb).2⟩, by rw [h3, Heap.size_push]; exact Nat.lt_succ_of_lt hlt⟩
    rw [upd_ne (by rw [← hD]; exact Nat.ne_of_lt hlt)]
    exact (f2 b hb).1
  have st3 : tn 0 s3.heap := T.keep _ _ _ st2 fun b _ o e => by rw [h3]; exact Heap.get?_push_of_some _ e
  have I4 := block_start I3 ok hN f3
  have pg := hg s3 (upd H2 D (.lst [])) s3.heap.objs.size (cellsFrom (s3.heap.objs.size + 1) scope.names (cloFrom X.env.cells scope.names [])) fp
  have pt := ht s3 (upd H2 D (.lst [])) s3.heap.objs.size (cellsFrom (s3.heap.objs.size + 1) scope.names (cloFrom X.env.cells scope.names [])) fp
  have pe := he s3 (upd H2 D (.lst [])) s3.heap.objs.size (cellsFrom (s3.heap.objs.size + 1) scope.names (cloFrom X.env.cells scope.names [])) fp
  show codeAny _ _ (.compStart (.ListComp elt [⟨tg, iter, ifs, 0⟩] scope pos) 0 (.ref it) (.ref D) (compEnvC scope (cellsFrom (s3.heap.objs.size + 1) scope.names (cloFrom X.env.cells scope.names [])) s3.heap.objs.size X.env)) (compPost (model X.prog X.w) X.A X.xe use Qf (.ref D) s3.heap.objs.size) { s3 with heap := pushCells (s3.heap.push { cls := .type "dict", data := .dict #[] }) scope.names }
  have nfp : ∀ b ∈ fp, (upd H2 D (.lst [])) b = none := fun b hb => (f3 b hb).1.1
  generalize hce : compEnvC scope (cellsFrom (s3.heap.objs.size + 1) scope.names (cloFrom X.env.cells scope.names [])) s3.heap.objs.size X.env = ce at I4 pg pt pe ⊢
  have cL : ce.locals = s3.heap.objs.size := by subst hce; rfl
  generalize hH3 : upd H2 D (.lst []) = H3 at I3 I4 pg pt pe w0 nfp f3
  generalize hs4 : ({ s3 with heap := pushCells (s3.heap.push { cls := .type "dict", data := .dict #[] }) scope.names } : Shared) = s4 at I4 ⊢
  have st4 : tn 0 s4.heap := T.keep _ _ _ st3 fun b _ o e => by rw [← hs4]; exact pushCells_keeps _ _ _ _ (Heap.get?_push_of_some _ e)
  have stat : ∀ {σ' : L2.St} {H' : Hp} {s' : Shared}, Inv (X.blk s3 H3 scope ce fp) [] σ' H' s' → (∀ b ∈ fp, H' b = none) → ∀ b ∈ fp, FpOk (X.blk s3 H3 scope ce fp) [] H' b := fun {σ' H' s'} I' hn b hb =>
    ⟨hn b hb, (I'.ok.exf b hb).1, I'.ok.exfs b hb, .inl hb, fun x c e => (I'.ok.exf b hb).2 x c e, fun p hp => absurd (show p ∈ ([] : List (Addr × Obj)) ++ [] from hp) (by simp)⟩
  have loop : codeAny (model X.prog X.w) X.A (.compLoop (.ListComp elt [⟨tg, iter, ifs, 0⟩] scope pos) 0 (.ref it) (.ref D) ce) (compPost (model X.prog X.w) X.A X.xe use Qf (.ref D) s3.heap.objs.size) s4 := by
    refine compLoop_any (fun n s' => ∃ i H', Inv (X.blk s3 H3 scope ce fp) [] (wipe σ (own.map (·.2))) H' s' ∧ tn i s'.heap ∧ (∀ b ∈ fp, H' b = none) ∧ W i n H') ?_ m0 ⟨0, H3, I4, st4, nfp, w0⟩
    rintro n s5 ⟨i, H5, I5, st5, n5, w5⟩
    rcases turn i n H5 w5 with ⟨stop, qq⟩ | ⟨go, Nx, hNx, step⟩
    · have hot5 : ∃ x1, HotAt (X.blk s3 H3 scope ce fp).A x1 s5.heap := by
        obtain ⟨p, ⟨hh, v1, e1, c1⟩, hp⟩ := hc
        obtain ⟨g1, g2, g3, g4, g5⟩ := I3.pin p (List.mem_append_left _ hp)
        have nfpp : p.1 ∉ fp := fun z => ((f3 p.1 z).1.2.2.2.2.2 p (List.mem_append_left _ hp)) rfl
        obtain ⟨sl, e2⟩ := I5.base.any g1 g2 nfpp
        exact ⟨p.1, hh, _, v1, e2, e1, c1⟩
      have td := T.done (X.blk s3 H3 scope ce fp) rfl rfl rfl i [] s5 _ H5 (fun _ _ => False) hot5 I5 (stat I5 n5) st5 stop
      refine thnF td fun r s6 ⟨hr, I6⟩ => ?_
      subst hr
      -- back in the def's context
      have I7 : Inv X pins σ H5 s6 := I3.call' (ch := fp) I6.os I6.base I6.hok I6.bare fun b hb => ⟨(f3 b hb).1.2.2.2.1, (f3 b hb).1.2.1, (f3 b hb).1.2.2.2.2.1, (f3 b hb).1.2.2.2.2.2⟩
      have nC : H5 s3.heap.objs.size = none := by
        have z : H5 ce.locals = none := I6.free
        rw [cL] at z
        exact z
      obtain ⟨m, hn, _⟩ := I6.loc
      have hn : s6.heap.Ns ce.locals m := hn
      rw [cL] at hn
      exact hRR D s3.heap.objs.size s6 m H5 I7 qq hn (I3.fpOk (Nat.le_refl _) nC)
    · have ti := T.item (X.blk s3 H3 scope ce fp) rfl rfl rfl i [] s5 _ H5 (fun _ _ => False) I5 (stat I5 n5) st5 go
      refine thnF ti fun r s6 ⟨u, hr, h6⟩ => ?_
      subst hr
      refine thnF h6 fun _ s7 ⟨x, H7, I7, r7, y7, st7, n7⟩ => ?_
      have I7' := I7.pinned (stat I7 n7) (T.obj _ _ st7)
      refine thnF (pg.run _ s7 _ H7 x u _ I7' r7 (step x H7 y7)) fun _ s8 ⟨σ8, H8, I8, hw8, q8⟩ => ?_
      refine thnF (pt.run _ s8 σ8 H8 _ I8 q8) fun b s9 ⟨H9, I9, q9⟩ => ?_
      -- the turn's end
      have fin : ∀ {s' : Shared} {H' : Hp}, Inv (X.blk s3 H3 scope ce fp) ([] ++ pinsAt fp s7.heap) σ8 H' s' → Nx H' → ∃ m, m < n ∧ ∃ i H', Inv (X.blk s3 H3 scope ce fp) [] (wipe σ (own.map (·.2))) H' s' ∧ tn i s'.heap ∧ (∀ b ∈ fp, H' b = none) ∧ W i m H' := fun {s' H'} I' nx => by
        obtain ⟨m', hm, w'⟩ := hNx H' nx
        have pin' : ∀ b ∈ fp, ∀ o, s7.heap.get? b = some o → s'.heap.get? b = some o ∧ H' b = none := fun b hb o e =>
          let z := I'.pin (b, o) (List.mem_append_right _ (List.mem_append_right _ (mem_pinsAt hb e)))
          ⟨z.1, z.2.1⟩
        have hl : (wipe σ (own.map (·.2))).length = σ8.length := by rw [← hw8, wipe_length]
        refine ⟨m', hm, i + 1, H', (I'.unpinned (pins := [])).weak hl (fun j v e => ?_), T.keep _ _ _ st7 fun b hb o e => (pin' b hb o e).1, fun b hb => ?_, w'⟩
        · rw [← hw8] at e
          exact (wipe_some e).1
        · obtain ⟨o, e, _⟩ := T.obj _ _ st7 b hb
          exact (pin' b hb o e).2
      cases b with
      | false =>
        simp only [Bool.false_eq_true, if_false] at q9 ⊢
        exact fin I9 q9
      | true =>
        simp only [if_true] at q9 ⊢
        refine thnF (pe.run _ s9 σ8 H9 _ I9 q9) fun z s10 ⟨yv, H10, I10, r10, acc, hD10, hz10, nx⟩ => ?_
        exact app_ok (X := X.blk s3 H3 scope ce fp) I10 hD10 hz10 r10 fun s11 I11 => fin I11 nx
  exact codeAny_compStart_list loop (T.self X.A 0 _ _ _ st4 loop)
/-- name = [..] on one line, the name a local -/
theorem ps_setLcG {i : Nat} {y : Str} {py : Pos} {elt tg iter : Expr} {ifs : List Expr} {scope : Scope} {own : List (Str × Nat)} {pos spos : Pos} {wi : TI} {g : TG} {tt : TT} {te : TE} (hc : HotC X) (hN : X.N.Nodup) (hy : X.N[i]? = some y) (hyl : X.env.scope.names.lookup y = some .local)
    (hsw : swapsWith (.ListComp elt [⟨tg, iter, ifs, 0⟩] scope pos) (some (.Name y py)) spos.line X.env = pure true) (hi : PIG X tg iter wi) (ok : BlkOk X.N X.env.scope scope own)
    (hg : ∀ (s : Shared) (H : Hp) (C : Addr) (cl : List (Str × Addr)) (fp : List Addr), PG (X.blk s H scope (compEnvC scope cl C X.env) fp) tg g) (ht : ∀ (s : Shared) (H : Hp) (C : Addr) (cl : List (Str × Addr)) (fp : List Addr), PTs (X.blk s H scope (compEnvC scope cl C X.env) fp) ifs tt)
    (he : ∀ (s : Shared) (H : Hp) (C : Addr) (cl : List (Str × Addr)) (fp : List Addr), PE (X.blk s H scope (compEnvC scope cl C X.env) fp) elt te) (hs : ∀ x, foldedSetIterable iter X.env x = pure x := by intro _; rfl) :
    PS X (.Assign [.Name y py] (.ListComp elt [⟨tg, iter, ifs, 0⟩] scope pos) spos) (tAsg (tLc wi g tt te (own.map (·.2))) (gName i)) := by
  refine ⟨fun pins s σ H D I h => ?_⟩
  rw [exec_Assign_Name_used _ _ _ _ hsw]
  refine wpAny_bind (wpAny_standAt (wpAny_bind ?_))
  show wpAny _ X.A (do let _ ← comprehension (.ListComp elt [⟨tg, iter, ifs, 0⟩] scope pos) scope X.env (firstIterPos [⟨tg, iter, ifs, 0⟩] pos) (newList []) false (eval iter X.env) (some (assign (.Name y py) X.env))) _ _ s
  have h : tLc wi g tt te (own.map (·.2)) σ H (fun x H1 => gName i x σ H1 D.nx) := h
  refine wpAny_bind (thn (lc_coreG (Qf := fun _ s' => SP X pins D .next s') hc hN I hi ok hg ht he hs h fun L C s' m H' I' q hn f => ?_) fun _ s' hq => wpAny_pure (wpAny_pure hq))
  show wpAny _ _ (assign (.Name y py) X.env (.ref L)) _ _ _
  refine wpAny_assign_Name (store_ok2 (v := V.ref L) I' hN hy (.inl hyl) rfl (fun s2 I2 ⟨a, sb, ha⟩ => ?_) (.inr hyl))
  obtain ⟨f0, f1, f2, f3, f4, f5⟩ := f
  have haC : C ≠ a := by
    rcases ha with z | z
    · rw [z]; exact f1
    · exact fun e => f4 y a z e.symm
  refine ⟨m, hn.sameBut sb haC, fun h3 sb3 => ?_⟩
  exact ⟨_, H', I2.turned (t' := s2.toks) (fun b o hb e => (sb3.2 b hb).trans e) f0 f1 f3 f4 f5, q⟩
end
end NL

namespace NL
open PySem PySem.Spec PyProof.Rows L2 L2H HotX
/-! ### a def that is given the error that is handled -/
abbrev SpE := Addr → Value → Option Addr → Sp
structure FnE (P : Program) (w : World) (K : PySem.W.Frag) (mg : Str → Option Value) (base : Heap) (CX : CXT) (k : Nat) (f : Addr) (fd : FuncData) (ps : List Str) (sp : SpE) : Prop where
  len : ∀ a cls d vs H Q E, sp a cls d vs H Q E → vs.length = ps.length
  run : ∀ (A : Around) (outer : List Env) (s : Shared) (H : Hp) (args : Args) (us : List Value) (vs : List V) (Q : VK) (E : XK) (p : Addr × Obj) (cls : Value) (d : Option Addr), RoomH k A → Hot1 A p → Zc cls d p.2 → PinOk outer H s p → Env0 P w K mg base A outer s H → BindsTo s fd args (ps.zip us) → Vals vs us → sp p.1 cls d vs H Q E →
    codeAny (model P w) A (.call (.ref f) args) (CR CX outer P w H s Q E) s
theorem fn_ofE {CX : CXT} {P : Program} {w : World} {K : PySem.W.Frag} {mg : Str → Option Value} {base : Heap} {k : Nat} {f : Addr} {name qual : Str} {params : Arguments} {body : List Stmt} {scope : Scope} {dV kV doc pm cdv ct oc : Value} {an od : Option Addr}
    {osl : Array (Option Value)} {N ps : List Str} {sp : SpE} (lk : K.lookup f = some ⟨oc, od, .func (PySem.W.fnOf name qual params body scope dV kV doc pm an cdv ct), osl⟩) (hcd : PySem.W.codeIn K cdv qual = true) (S : FnScope N ps scope)
    (len : ∀ a cls d vs H Q E, sp a cls d vs H Q E → vs.length = ps.length)
    (hbody : ∀ (A : Around) (outer : List Env) (s : Shared) (H : Hp) (vs : List V) (Q : VK) (E : XK) (p : Addr × Obj) (cls : Value) (d : Option Addr), Hot1 A p → Zc cls d p.2 → RoomH k (A.deeper (envOfC qual scope s.heap.objs.size f cdv)) → sp p.1 cls d vs H Q E →
      ∃ t, PSs (cxH CX P w K mg base N qual scope f cdv A outer s H E p) body t ∧ t { nx := fun _ H' => Q .non H', rt := Q } (L2.start N vs) H) :
    FnE P w K mg base CX (k + 1) f (PySem.W.fnOf name qual params body scope dV kV doc pm an cdv ct) ps sp := by
  refine ⟨len, fun A outer s H args us vs Q E p cls d hr hot hz hpin e0 hb r hsp => ?_⟩
  have hl := len _ _ _ _ _ _ _ hsp
  have KX : K.In s.heap := e0.mod.kin.keeps fun b o e => (e0.bs b o e).1
  have lim : s.heap.NoLimit := e0.mod.nolimit.keeps fun b o e => (e0.bs b o e).1
  have hkind : ∀ y ∈ ps.zip us, scope.names.lookup y.1 = some .local ∨ (scope.names.lookup y.1 = some .cell ∧ ((cellsFrom (s.heap.objs.size + 1) scope.names []).lookup y.1).isSome = true) := fun ⟨n, v⟩ hy => by
    rcases S.par n (List.of_mem_zip hy).1 with q | q
    · exact .inl q
    · exact .inr ⟨q, PySem.W.cellsFrom_some _ _ _ (.inl q)⟩
  refine codeAny_call_function hr.depth (KX _ _ lk) rfl S.co S.gen rfl (PySem.W.codeRec_of KX hcd) (hb _ _ _ _ ?_)
  refine wpAny_newFunctionEnv_cells S.kind hkind fun env he s1 x => ?_
  subst he
  refine ⟨lim.keeps x.toInCall.keep, codeAny_func ?_⟩
  obtain ⟨t, ht, hq⟩ := hbody A outer s H vs Q E p cls d hot hz (hr.deeper _) hsp
  have I : Inv (cxH CX P w K mg base N qual scope f cdv A outer s H E p) [] (L2.start N vs) H s1 := inv_startH S hpin e0 hl r x
  refine wpAny_mono (ht.run [] s1 (L2.start N vs) H _ I hq) (fun fl s' hs => ?_) fun e s' hs => hs
  have fin : ∀ {σ' : L2.St} {H' : Hp} {v : V} {u : Value}, Inv (cxH CX P w K mg base N qual scope f cdv A outer s H E p) [] σ' H' s' → RelV v u → Q v H' → CE outer P w H s Q u s' :=
    fun {σ' H' v u} J rv q => ⟨v, H', J.os, J.bare, J.base, J.hok, rv, q⟩
  cases fl with
  | ret u =>
    obtain ⟨v, σ', H', J, rv, q⟩ := hs
    exact fin J rv q
  | next =>
    obtain ⟨σ', H', J, q⟩ := hs
    exact fin (v := V.non) (u := Value.none) J rfl q
  | brk =>
    obtain ⟨_, _, _, q⟩ := hs
    exact False.elim q
  | cont =>
    obtain ⟨_, _, _, q⟩ := hs
    exact False.elim q
section
variable {P : Program} {w : World} {K : PySem.W.Frag} {mg : Str → Option Value} {base : Heap}
theorem okE {x qual : Str} {st : Stmt} {f : Addr} {fd : FuncData} {N ps : List Str} {k : Nat} {sp : SpE} (F : L2.Fun K x qual st f fd) (S : FnScope N ps (defScope st)) (len : ∀ a cls d vs H Q E, sp a cls d vs H Q E → vs.length = ps.length)
    (hbody : ∀ (cdv : Value) (A : Around) (outer : List Env) (s : Shared) (H : Hp) (vs : List V) (Q : VK) (E : XK) (p : Addr × Obj) (cls : Value) (d : Option Addr), Hot1 A p → Zc cls d p.2 → RoomH k (A.deeper (envOfC qual (defScope st) s.heap.objs.size f cdv)) → sp p.1 cls d vs H Q E →
      ∃ t, PSs (cxH CX0 P w K mg base N qual (defScope st) f cdv A outer s H E p) (defBody st) t ∧ t { nx := fun _ H' => Q .non H', rt := Q } (L2.start N vs) H) : FnE P w K mg base CX0 (k + 1) f fd ps sp := by
  obtain ⟨oc, od, kV, doc, pm, an, cdv, ct, osl, rfl, lk, hcd⟩ := F.ex
  exact fn_ofE lk hcd S len fun A outer s H vs Q E p cls d hot hz hr hsp => hbody cdv A outer s H vs Q E p cls d hot hz hr hsp
/-- a def that may raise: the errors bear that nothing was handled where they were made -/
theorem okN {x qual : Str} {st : Stmt} {f : Addr} {fd : FuncData} {N ps : List Str} {k : Nat} {sp : Sp} (F : L2.Fun K x qual st f fd) (S : FnScope N ps (defScope st)) (len : ∀ vs H Q E, sp vs H Q E → vs.length = ps.length)
    (hbody : ∀ (cdv : Value) (A : Around) (outer : List Env) (s : Shared) (H : Hp) (vs : List V) (Q : VK) (E : XK), Room k (A.deeper (envOfC qual (defScope st) s.heap.objs.size f cdv)) → sp vs H Q E →
      ∃ t, PSs (cxOf (L2N.CX P w) P w K mg base N qual (defScope st) f cdv A outer s H E) (defBody st) t ∧ t { nx := fun _ H' => Q .non H', rt := Q } (start N vs) H) : FnOk P w K mg base (L2N.CX P w) (k + 1) f fd ps sp := by
  obtain ⟨oc, od, kV, doc, pm, an, cdv, ct, osl, rfl, lk, hcd⟩ := F.ex
  exact fn_of lk hcd S len fun A outer s H vs Q E hr hsp => hbody cdv A outer s H vs Q E hr hsp
end
theorem zn_hot {X : Cx} {a : Addr} {oe : Obj} {cls : Value} {d : Option Addr} {pn : List (Addr × Obj)} (hz : L2N.Zn cls d oe) (hf : ∃ vs, oe.data = .fields vs) : Hot1 (X.suite a ((a, oe) :: pn)).A (a, oe) := by
  obtain ⟨vs, hv⟩ := hf
  exact ⟨rfl, vs, hv, hz.2.2 vs hv⟩
section
variable {X : Cx} {CX : CXT} {k : Nat} {f : Addr} {fd : FuncData} {ps : List Str} {sp : SpE} {E : L2.St → XK} {x : Str} {q pos : Pos} {e : Expr} {es : List Expr} {t : TA}
theorem pe_callE {p : Addr × Obj} {cls : Value} {d : Option Addr} (F : FnE X.prog X.w X.K X.mg X.base CX k f fd ps sp) (hr : RoomH k X.A) (hot : Hot1 X.A p) (hp : p ∈ X.pn) (hz : Zc cls d p.2) (hg : Gl X x) (hm : X.mg x = some (.ref f)) (hk : PySem.W.keepIn X.K (.ref f) = true) (hb : Binds X.K fd ps []) (hx : ∀ σ, PassesAt CX X σ (E σ))
    (ha : PA X (e :: es) t) (hdb : (x == ("__debug__" : Str)) = false := by decide) (he : starEach (e :: es) X.env = (false, eval e X.env) :: starEach es X.env := by rfl) (hpl : (backTo pos (starEach es X.env)).any (·.1) = false := by rfl) :
    PE X (.Call (.Name x q) (e :: es) [] pos) (tCallS (sp p.1 cls d) E t) := by
  refine ⟨fun pins s σ H Q I h => ?_⟩
  refine wpAny_Call_Name_kw (ld_glob I hg hm ?_ hdb)
  refine PySem.W.callWith_K (h₀ := X.base) I.ok.mod.kin hk (thn (ha.run pos pins s σ H _ I h) fun us s1 ⟨vs, H1, I1, r, q⟩ => ⟨I1.kIn, ?_⟩) he hpl
  have hl : us.length = ps.length := by rw [← r.length]; exact F.len _ _ _ _ _ _ _ q
  have b := hb s1 us I1.kIn (by rw [List.append_nil]; exact hl)
  rw [List.append_nil] at b
  have P1 := I1.pin p (List.mem_append_left _ hp)
  have hpin : PinOk X.stack H1 s1 p := ⟨P1.1, P1.2.1, fun hm => (List.mem_cons.mp (I1.stkSub p.1 hm)).elim P1.2.2.1 P1.2.2.2.1, P1.2.2.2.2⟩
  refine wpAny_call (codeAny_mono (F.run X.A X.stack s1 H1 ⟨us, []⟩ us vs Q (E σ) p cls d hr hot hz hpin I1.env0 b r q) fun r s' hq => ?_)
  cases r with
  | error e => exact hx σ pins H1 s1 e s' I1 hq
  | ok fl =>
    cases fl with
    | ret u => exact I1.after hq
    | next => exact False.elim hq
    | brk => exact False.elim hq
    | cont => exact False.elim hq
end
/-- isinstance of the error that is handled -/
theorem call_isP {X : Cx} {D : Addr} {p : Addr × Obj} (C : ExcC X.K D) (hp : p ∈ X.pn) (hz : Zc (.ref D) none p.2) (hf : ∃ vs, p.2.data = .fields vs) : CallR X (.builtin "isinstance") (rIsE X.K D p.1) := by
  intro pins s σ H xs us Q I r h
  obtain ⟨c, cv, b, rfl, hcv, e, q⟩ := h
  cases r with
  | cons rx rr =>
    cases rr with
    | cons rt rr =>
      cases rr
      cases rx
      have ec := hcv _ rt
      subst ec
      obtain ⟨hget, _⟩ := I.pin p (List.mem_append_left _ hp)
      obtain ⟨vs, hv⟩ := hf
      have J : PySem.W.InstAt s.heap p.1 p.2 D none := by
        obtain ⟨a, oc, od, oda, osl⟩ := p
        obtain ⟨h1, h2⟩ := hz
        dsimp only at h1 h2 hv
        subst h1 h2 hv
        exact ⟨hget, rfl, rfl, trivial⟩
      exact PySem.W.kia_one (PySem.W.handS_kitx_exc C.hg C.hk C.hs C.hd C.ha C.hn C.ht C.hm) I.kIn J e (fun z => nomatch z) fun tk => ⟨.bl b, H, I.kept (t' := tk) fun _ _ z => z, rfl, q⟩
end NL

namespace NL
open PySem PySem.Spec PyProof.Rows L2 L2H HotX
theorem kit_ref {K : PySem.W.Frag} {D C : Addr} {b : Bool} (hne : b = false → D ≠ C) (i : PySem.W.isClsIn K C = true) (t : PySem.W.typeIn K (.ref C) = some (.type "type")) (s : PySem.W.subIn K (.ref D) (.ref C) = some b) : PySem.W.kitOne K (.ref D) (.ref C) = some b := by
  unfold PySem.W.kitOne
  by_cases e : D = C
  · subst e
    rw [if_pos (by simp)]
    cases b with
    | true => rfl
    | false => exact absurd rfl (hne rfl)
  · rw [if_neg (by simpa using e)]
    show (if ((PySem.W.clsIn K C).isSome && PySem.W.typeIn K (.ref C) == some (.type "type")) = true then PySem.W.subIn K (.ref D) (.ref C) else none) = some b
    have i' : (PySem.W.clsIn K C).isSome = true := i
    rw [i', t, if_pos (by rfl), s]
theorem exm_ref' {K : PySem.W.Frag} {cls : Value} {C : Addr} {b : Bool} (h1 : PySem.W.subIn K (.ref C) (.type "BaseException") = some true) (i : PySem.W.isClsIn K C = true) (t : PySem.W.typeIn K (.ref C) = some (.type "type")) (s : PySem.W.subIn K cls (.ref C) = some b) : PySem.W.exmOne K cls (.ref C) = some b := by
  unfold PySem.W.exmOne
  rw [h1, if_pos (by rfl)]
  show (if ((PySem.W.clsIn K C).isSome && PySem.W.typeIn K (.ref C) == some (.type "type")) = true then PySem.W.subIn K cls (.ref C) else none) = some b
  have i' : (PySem.W.clsIn K C).isSome = true := i
  rw [i', t, if_pos (by rfl), s]
theorem kit_val {K : PySem.W.Frag} {D : Addr} (s : PySem.W.subIn K (.ref D) (.type "ValueError") = some true) : PySem.W.kitOne K (.ref D) (.type "ValueError") = some true := by
  unfold PySem.W.kitOne
  rw [if_neg (by simp)]
  show (if PySem.W.kitMeta "ValueError" = true then PySem.W.subIn K (.ref D) (.type "ValueError") else none) = some true
  rw [if_pos (by decide +kernel), s]
theorem self_ne {K : PySem.W.Frag} {D C : Addr} (a : PySem.W.subIn K (.ref D) (.ref D) = some true) (b : PySem.W.subIn K (.ref D) (.ref C) = some false) : D ≠ C := fun e => by
  subst e; rw [a] at b; cases b
theorem takesN0 {X : Cx} : L2N.Takes X (fun _ _ _ _ => False) := fun _ _ x => by
  obtain ⟨_, _, _, _, _, _, _, _, _, _, _, _, _, _, _, _, z⟩ := x
  exact z.elim
theorem passE0 {X : Cx} {E : L2.St → XK} : ∀ σ, PassesAt CX0 X σ (E σ) := fun _ _ _ _ _ _ _ h => h.elim
theorem roomH_mark {j k : Nat} {A : Around} {v : Option Value} (r : Room k A) (h : j ≤ k) : RoomH j (A.mark v) := by
  have q : RoomH j A := (roomH_of r).mono h
  exact ⟨q.dp, q.un⟩
theorem zn_hot2 {A : Around} {a : Addr} {oe : Obj} {cls : Value} {d : Option Addr} (hz : L2N.Zn cls d oe) (hf : ∃ vs, oe.data = .fields vs) (h : A.handled = some (.ref a)) : L2H.Hot1 A (a, oe) := by
  obtain ⟨vs, hv⟩ := hf
  exact ⟨h, vs, hv, hz.2.2 vs hv⟩
section
variable {X : Cx} {CX : CXT} {k : Nat} {f : Addr} {fd : FuncData} {ps : List Str} {sp : SpE} {E : L2.St → XK} {x : Str} {q pos : Pos} {e : Expr} {es : List Expr} {t : TA}
theorem pe_callE2 {a : Addr} {oe : Obj} {cls : Value} {d : Option Addr} (F : FnE X.prog X.w X.K X.mg X.base CX k f fd ps sp) (hr : L2H.RoomH k X.A) (hot : L2H.Hot1 X.A (a, oe)) (hp : (a, oe) ∈ X.pn) (hz : Zc cls d oe) (hg : Gl X x) (hm : X.mg x = some (.ref f)) (hk : PySem.W.keepIn X.K (.ref f) = true) (hb : Binds X.K fd ps []) (hx : ∀ σ, PassesAt CX X σ (E σ))
    (ha : PA X (e :: es) t) (hdb : (x == ("__debug__" : Str)) = false := by decide) (he : starEach (e :: es) X.env = (false, eval e X.env) :: starEach es X.env := by rfl) (hpl : (backTo pos (starEach es X.env)).any (·.1) = false := by rfl) :
    PE X (.Call (.Name x q) (e :: es) [] pos) (tCallS (sp a cls d) E t) := pe_callE (p := (a, oe)) F hr hot hp hz hg hm hk hb hx ha hdb he hpl
end
/-- isinstance of the error that is handled, in the suite itself -/
theorem call_isQ {X : Cx} {K : PySem.W.Frag} {D a : Addr} {oe : Obj} {cls : Value} {d : Option Addr} (hK : X.K = K) (C : ExcC K D) (hp : (a, oe) ∈ X.pn) (hz : L2N.Zn cls d oe) (hf : ∃ vs, oe.data = .fields vs) : CallR X (.builtin "isinstance") (fun xs H Q => cls = .ref D ∧ d = none ∧ rIsE K D a xs H Q) := by
  subst hK
  intro pins s σ H xs us Q I r h
  obtain ⟨rfl, rfl, h⟩ := h
  exact call_isP C hp hz.zc hf pins s σ H xs us Q I r h
end NL

namespace NL
open PySem PySem.Spec PyProof.Rows L2

/-! ### frames: what stays while the list of draws at d is used up -/
structure Go (d : Addr) (H H' : Hp) : Prop where
  fr : ∀ b o, b ≠ d → H b = some o → H' b = some o
  dr : ∃ ns : List Int, H' d = some (.lst (ns.map V.int))
abbrev Dr (H : Hp) (d : Addr) : Prop := ∃ ns : List Int, H d = some (.lst (ns.map V.int))
theorem Go.refl {d : Addr} {H : Hp} (h : Dr H d) : Go d H H := ⟨fun _ _ _ e => e, h⟩
theorem Go.trans {d : Addr} {H H1 H2 : Hp} (a : Go d H H1) (b : Go d H1 H2) : Go d H H2 := ⟨fun c o n e => b.fr c o n (a.fr c o n e), b.dr⟩
theorem Go.new {d p : Addr} {H : Hp} {o : HO} (h : Dr H d) (hp : H p = none) : Go d H (upd H p o) := by
  obtain ⟨ns, e⟩ := h
  have n : d ≠ p := ne_of_none e hp
  exact ⟨fun b u _ q => by rw [upd_ne (ne_of_none q hp)]; exact q, ⟨ns, by rw [upd_ne n]; exact e⟩⟩
theorem Go.put {d : Addr} {H : Hp} (ns : List Int) : Go d H (upd H d (.lst (ns.map V.int))) := ⟨fun b u n q => by rw [upd_ne n]; exact q, ⟨ns, upd_same⟩⟩
theorem Go.same {d : Addr} {H H' : Hp} (h : Dr H d) (s : Same H H') : Go d H H' := ⟨fun b o _ e => s b o e, by obtain ⟨ns, e⟩ := h; exact ⟨ns, s _ _ e⟩⟩
theorem Go.tup {d a : Addr} {H H' : Hp} {xs : List V} (g : Go d H H') (h : Dr H d) (e : H a = some (.tup xs)) : H' a = some (.tup xs) := by
  refine g.fr a _ ?_ e
  rintro rfl
  obtain ⟨ns, q⟩ := h
  rw [e] at q; cases q
theorem same_new {H : Hp} {p : Addr} (h : H p = none) (o : HO) : Same H (upd H p o) := fun b u q => by rw [upd_ne (ne_of_none q h)]; exact q
/-- all tuples stay -/
def Tp (H H' : Hp) : Prop := ∀ a xs, H a = some (.tup xs) → H' a = some (.tup xs)
theorem Go.tp {d : Addr} {H H' : Hp} (g : Go d H H') (h : Dr H d) : Tp H H' := fun _ _ e => g.tup h e
theorem Tp.same {H H' : Hp} (s : Same H H') : Tp H H' := fun _ _ e => s _ _ e
theorem Tp.trans {H H1 H2 : Hp} (a : Tp H H1) (b : Tp H1 H2) : Tp H H2 := fun x y e => b x y (a x y e)
theorem Tp.refl {H : Hp} : Tp H H := fun _ _ e => e
/-- a list that stays readable whatever is drawn at d -/
def Keep (K : PySem.W.Frag) (d : Addr) (H : Hp) (a : Addr) (xs : List V) : Prop := ∀ H', (∀ b o, b ≠ d → H b = some o → H' b = some o) → SqL K H' a xs
theorem Keep.now {K : PySem.W.Frag} {d a : Addr} {H : Hp} {xs : List V} (k : Keep K d H a xs) : SqL K H a xs := k H fun _ _ _ e => e
theorem Keep.go {K : PySem.W.Frag} {d a : Addr} {H H' : Hp} {xs : List V} (k : Keep K d H a xs) (g : Go d H H') : Keep K d H' a xs := fun H2 f => k H2 fun b o n e => f b o n (g.fr b o n e)
theorem Keep.of {K : PySem.W.Frag} {d a : Addr} {H : Hp} {xs : List V} (n : a ≠ d) (h : H a = some (.lst xs)) : Keep K d H a xs := fun H' f => .inl (.inl (f a _ n h))
/-- what was read ahead of the draws' list stays -/
theorem Keep.old {K : PySem.W.Frag} {d a : Addr} {H0 H : Hp} {xs : List V} (h : SqL K H0 a xs) (hd : H0 d = none) (f : ∀ b o, H0 b = some o → H b = some o) : Keep K d H a xs := fun H' g => by
  rcases h with (h | ⟨o, h⟩) | h
  · exact .inl (.inl (g a _ (ne_of_none h hd) (f _ _ h)))
  · exact .inl (.inr ⟨o, g a _ (ne_of_none h hd) (f _ _ h)⟩)
  · exact .inr h

/-! ### rules whose written part is named (in a comprehension) -/
theorem ix_tupK {X : Cx} {K : PySem.W.Frag} (h : X.K = K) : IxR X (rIxT K) := by subst h; exact ix_tup
theorem ix_listK {X : Cx} {K : PySem.W.Frag} (h : X.K = K) : IxR X (rIxL K) := by subst h; exact ix_list
def rTupOf (K : PySem.W.Frag) : List V → Hp → VK → Prop := fun xs H Q => ∃ p ys, xs = [.ref p] ∧ ((SqL K H p ys ∧ ∀ l, H l = none → Q (.ref l) (upd H l (.tup ys))) ∨ (SqT K H p ys ∧ Q (.ref p) H))
theorem call_tuple_ofK {X : Cx} {K : PySem.W.Frag} (h : X.K = K) : CallR X (.type "tuple") (rTupOf K) := by subst h; exact call_tuple_of
/-! ### texts and words -/
/-- signs a to z alone -/
def Wd (z : Str) : Prop := ∀ c ∈ z.cps.toList, 97 ≤ c ∧ c ≤ 122
instance (z : Str) : Decidable (Wd z) := by unfold Wd; infer_instance
def res : List Str := ["true", "false", "add", "sub", "mul", "div", "mod", "min", "max", "abs", "if", "less", "equal", "not", "all", "any"]
theorem app_list (a b : Str) : (a ++ b).cps.toList = a.cps.toList ++ b.cps.toList := by
  show (a.cps ++ b.cps).toList = _
  simp
theorem len_list (a : Str) : a.length = a.cps.toList.length := by
  show a.cps.size = _
  simp
theorem len_app (a b : Str) : (a ++ b).length = a.length + b.length := by
  rw [len_list, app_list, List.length_append, ← len_list, ← len_list]
theorem str_ext {a b : Str} (h : a.cps.toList = b.cps.toList) : a = b := by
  cases a with | mk x => cases b with | mk y =>
  have : x = y := Array.toList_inj.mp h
  rw [this]
theorem Wd.app {a b : Str} (ha : Wd a) (hb : Wd b) : Wd (a ++ b) := fun c hc => by
  rw [app_list] at hc
  rcases List.mem_append.mp hc with h | h
  · exact ha c h
  · exact hb c h
structure Nam (z : Str) : Prop where
  wd : Wd z
  len : 0 < z.length ∧ z.length ≤ 200
  nr : z ∉ res
structure Nm (z : Str) : Prop where
  wd : Wd z
  len : 0 < z.length ∧ z.length ≤ 150

/-! ### lists at an index -/
theorem atI_mem {α : Type} {xs : List α} {i : Int} (h0 : 0 ≤ i) (h1 : i < xs.length) : ∃ v, atI xs i = some v ∧ v ∈ xs := by
  have hk : i.toNat < xs.length := by omega
  have ek : i = ((i.toNat : Nat) : Int) := by omega
  have q : atI xs ((i.toNat : Nat) : Int) = some xs[i.toNat] := atI_nat (List.getElem?_eq_getElem hk)
  rw [← ek] at q
  exact ⟨_, q, List.getElem_mem hk⟩
theorem atI_map {α β : Type} {f : α → β} {xs : List α} {i : Int} (h0 : 0 ≤ i) (h1 : i < xs.length) : ∃ v, atI (xs.map f) i = some (f v) ∧ v ∈ xs := by
  obtain ⟨v, h, m⟩ := atI_mem (xs := xs.map f) h0 (by rw [List.length_map]; exact h1)
  obtain ⟨u, hu, rfl⟩ := List.mem_map.mp m
  exact ⟨u, h, hu⟩
theorem sqd {K : PySem.W.Frag} {H : Hp} {a : Addr} {xs : List V} (h : H a = some (.lst xs)) : SqL K H a xs := .inl (.inl h)
theorem sqt {K : PySem.W.Frag} {H : Hp} {a : Addr} {xs : List V} (h : H a = some (.tup xs)) : SqT K H a xs := .inl (.inl h)
theorem int_eq {i j : Int} (h : decide (V.int i = V.int j) = true) : i = j := V.int.inj (of_decide_eq_true h)
theorem int_ne {i j : Int} (h : ¬ decide (V.int i = V.int j) = true) : i ≠ j := fun e => h (decide_eq_true (by rw [e]))
section
variable {P : Program} {w : World} {K : PySem.W.Frag} {mg : Str → Option Value} {base : Heap}
/-! ### _law_take -/
def spTake : Sp := fun vs H Q _ => ∃ (d : Addr) (m : Int), vs = [.ref d, .int m] ∧ Dr H d ∧ 0 < m ∧ ∀ r H', Go d H H' → 0 ≤ r → r < m → Q (.int r) H'
theorem ok_law_take (T : Txt K mg) : FnOk P w K mg base CX0 1 T.a_law_take T.d_law_take P_law_take spTake := by
  refine T.F_law_take.ok sc_law_take (fun vs H Q E h => ?_) (fun cdv A outer s H vs Q E hr h => ?_)
  · obtain ⟨d, m, rfl, _⟩ := h
    rfl
  obtain ⟨d, m, rfl, hD, hm, q⟩ := h
  refine ⟨_, (pss_cons (ps_if (pt_cmpR op_eq (pe_callB call_len_seq (by rfl) T.z_len PySem.boot_len (pa_cons (pv 0) pa_nil)) pe_int (nomark _))
    (pss_one (ps_ret pe_int))
    pss_nil)
    (pss_one (ps_ret (pe_op op_mod (pe_callTy call_int1 (by rfl) T.z_int (by decide +kernel) (pa_cons (pe_bm0 PySem.F.plainAttrs_list PySem.F.slot_list_pop PySem.F.type_list_pop mt_pop (pv 0)) pa_nil)) (pv 1))))), ?_⟩
  obtain ⟨ns, hd⟩ := hD
  refine ⟨_, rfl, _, _, rfl, .inl (sqd hd), rfl, _, rfl, ?_⟩
  refine ite2 (fun c => ?_) (fun c => ?_)
  · exact q 0 H (Go.refl ⟨ns, hd⟩) (Int.le_refl 0) hm
  · have hn := int_ne c
    rw [List.length_map] at hn
    have hz : ns ≠ [] := by
      rintro rfl
      exact hn rfl
    have hl : 0 < ns.length := List.length_pos_iff.mpr hz
    have he : (ns.map V.int)[(ns.map V.int).length - 1]? = some (.int ns[ns.length - 1]) := by
      rw [List.length_map, List.getElem?_map, List.getElem?_eq_getElem (by omega)]
      rfl
    refine ⟨_, rfl, .inl ⟨rfl, _, sqd hd⟩, _, _, _, rfl, rfl, hd, he, .inl ⟨_, rfl, ?_⟩⟩
    refine ⟨_, rfl, _, _, rfl, rfl, hm, ?_⟩
    refine q _ _ ?_ (Int.emod_nonneg _ (by omega)) (Int.emod_lt_of_pos _ hm)
    rw [← List.map_dropLast]
    exact Go.put _
end
end NL

namespace NL
open PySem PySem.Spec PyProof.Rows L2
/-! ### a text times a number -/
theorem op_mulS {X : Cx} : OpR X (binaryOp .Mult) (fun x y H Q => ∃ (z : Str) (k : Int), x = .str z ∧ y = .int k ∧ z.length ≤ 16 ∧ 0 ≤ k ∧ k ≤ 1000 ∧ ((Txt.mul z k).length = z.length * k.toNat → Q (.str (Txt.mul z k)) H)) := by
  intro pins s σ H x y v u Q I rx ry h
  obtain ⟨z, k, rfl, rfl, hz, h0, h1, q⟩ := h
  obtain ⟨t, rfl⟩ := rx
  obtain ⟨t', rfl⟩ := ry
  refine PySem.W.KXi.mul rfl hz (by omega) (by omega) fun t' tk _ hl => ⟨.str (Txt.mul z k), H, I.tok _, ⟨_, rfl⟩, q ?_⟩
  have e := hl h0
  have e2 : k = ((k.toNat : Nat) : Int) := by omega
  rw [e2] at e
  have : ((z.length : Int) * ((k.toNat : Nat) : Int)) = ((z.length * k.toNat : Nat) : Int) := by push_cast; rfl
  rw [this] at e
  have e3 := Int.ofNat.inj e
  rw [← e2] at e3
  exact e3
def abc : Str := "abcdefghijklmnopqrstuvwxyz"
theorem abc_at {i : Int} (h0 : 0 ≤ i) (h1 : i < 26) : ∃ c, atI abc.cps.toList i = some c ∧ 97 ≤ c ∧ c ≤ 122 := by
  have hl : abc.cps.toList.length = 26 := by decide +kernel
  obtain ⟨c, h, m⟩ := atI_mem (xs := abc.cps.toList) h0 (by rw [hl]; exact h1)
  have hall : ∀ c ∈ abc.cps.toList, 97 ≤ c ∧ c ≤ 122 := by decide +kernel
  exact ⟨c, h, hall c m⟩
section
variable {P : Program} {w : World} {K : PySem.W.Frag} {mg : Str → Option Value} {base : Heap}
/-! ### _law_cell -/
def spCell (K : PySem.W.Frag) : Sp := fun vs H Q _ => ∃ (a d : Addr) (ns : List Int), vs = [.ref a, .ref d] ∧ Keep K d H a (ns.map V.int) ∧ Dr H d ∧ ∀ r H', Go d H H' → (r = 0 ∨ r ∈ ns) → Q (.int r) H'
theorem ok_law_cell (T : Txt K mg) : FnOk P w K mg base CX0 2 T.a_law_cell T.d_law_cell P_law_cell (spCell K) := by
  have G_law_take := ok_law_take (P := P) (w := w) (base := base) T
  refine T.F_law_cell.ok sc_law_cell (fun vs H Q E h => ?_) (fun cdv A outer s H vs Q E hr h => ?_)
  · obtain ⟨a, d, ns, rfl, _⟩ := h
    rfl
  obtain ⟨a, d, ns, rfl, hk, hD, q⟩ := h
  refine ⟨_, (pss_cons (ps_if (pt_cmpR op_eq (pe_callB call_len_seq (by rfl) T.z_len PySem.boot_len (pa_cons (pv 0) pa_nil)) pe_int (nomark _))
    (pss_one (ps_ret pe_int))
    pss_nil)
    (pss_one (ps_ret (pe_callTy call_int1 (by rfl) T.z_int (by decide +kernel) (pa_cons (pe_ix ix_list (pv 0) (pe_call G_law_take (hr.mono (by omega)) (by rfl) T.m_law_take T.F_law_take.kp T.b_law_take .nil pass0 (pa_cons (pv 1) (pa_cons (pe_callB call_len_seq (by rfl) T.z_len PySem.boot_len (pa_cons (pv 0) pa_nil)) pa_nil))) (fun _ _ => rfl)) pa_nil))))), ?_⟩
  refine ⟨_, rfl, _, _, rfl, .inl hk.now, rfl, _, rfl, ?_⟩
  refine ite2 (fun c => ?_) (fun c => ?_)
  · exact q 0 H (Go.refl hD) (.inl rfl)
  · have hn := int_ne c
    rw [List.length_map] at hn
    refine ⟨_, rfl, _, rfl, _, rfl, _, _, rfl, .inl hk.now, d, _, rfl, hD, by rw [List.length_map]; omega, fun r H1 g h0 h1 => ?_⟩
    rw [List.length_map] at h1
    obtain ⟨v, hv, hm⟩ := atI_map (f := V.int) h0 h1
    exact ⟨_, _, _, _, rfl, rfl, (hk.go g).now, hv, .inl ⟨_, rfl, q v H1 g (.inr hm)⟩⟩
/-! ### _law_word -/
def spWord : Sp := fun vs H Q _ => ∃ i : Int, vs = [.int i] ∧ ∀ z : Str, Wd z → z.length ≤ 60 → (1 ≤ i → 0 < z.length) → Q (.str z) H
end
end NL

namespace NL
open PySem PySem.Spec PyProof.Rows L2
theorem yes_if {σ : L2.St} {H : Hp} {a n : Hp → Prop} (h : a H) : tYes σ H (fun b H3 => if b = true then a H3 else n H3) := by
  show (if true = true then a H else n H)
  rw [if_pos rfl]
  exact h
/-- one reading for two ways -/
theorem cutP {B C : Prop} (f : B → C) (b : B) : C := f b
theorem ifT {c : Bool} {A B : Prop} (h : c = true) (a : A) : if c = true then A else B := by
  rw [if_pos h]; exact a
theorem ifF {c : Bool} {A B : Prop} (h : c = false) (b : B) : if c = true then A else B := by
  rw [if_neg (by rw [h]; exact Bool.false_ne_true)]; exact b
theorem atI0 {α : Type} {x : α} {r : List α} : atI (x :: r) 0 = some x := atI_nat (j := 0) rfl
theorem atI1 {α : Type} {x y : α} {r : List α} : atI (x :: y :: r) 1 = some y := atI_nat (j := 1) rfl
theorem boolE {Q : VK} {b b' : Bool} {H : Hp} (h : b = b') (q : Q (.bl b') H) : Q (.bl b) H := by rw [h]; exact q
theorem big {n : Nat} (h : n ≤ 1000000) : n ≤ sizeLine := Nat.le_trans h (by decide)
theorem big' {n : Nat} (h : n ≤ 1000000) : n < sizeLine := Nat.lt_of_le_of_lt h (by decide)
theorem int_in {x : Int} {l : List Int} : inV (.int x) (l.map V.int) = decide (x ∈ l) := by
  unfold inV
  rw [List.any_map]
  induction l with
  | nil => rfl
  | cons a r ih =>
    rw [List.any_cons, ih]
    show (eqV (.int a) (.int x) || _) = _
    have e : eqV (.int a) (.int x) = decide (x = a) := by
      show (a == x) = _
      rw [Bool.beq_eq_decide_eq]
      exact decide_eq_decide.mpr ⟨fun h => h.symm, fun h => h.symm⟩
    rw [e, ← Bool.decide_or]
    exact decide_eq_decide.mpr List.mem_cons.symm
theorem flat_ints' (l : List Int) : (l.map V.int).all flatV = true := by
  induction l with
  | nil => rfl
  | cons a r ih => rw [List.map_cons, List.all_cons, ih]; rfl
theorem notIn_int {x : Int} {l : List Int} : (if true = true then !inV (V.int x) (l.map V.int) else inV (V.int x) (l.map V.int)) = !decide (x ∈ l) := by
  rw [if_pos rfl, int_in]
end NL

namespace NL
open PySem PySem.Spec PyProof.Rows L2
theorem ixN_in {n : Nat} {k : Int} (h0 : 0 ≤ k) (h1 : k < n) : ixN n k = some k.toNat := by
  unfold ixN
  rw [if_pos h0, if_pos h1]
/-- a change at what was not there before -/
theorem same_put {H H' : Hp} {p : Addr} {o : HO} (s : Same H H') (hp : H p = none) : Same H (upd H' p o) := fun b u e => by
  rw [upd_ne (ne_of_none e hp)]
  exact s b u e
section
variable {P : Program} {w : World} {K : PySem.W.Frag} {mg : Str → Option Value} {base : Heap}
def spDraws (K : PySem.W.Frag) : Sp := fun vs H Q _ => ∃ (a : Addr) (ns : List Int) (m : Int), vs = [.ref a, .int m] ∧ SqL K H a (ns.map V.int) ∧ ns.length ≤ 63 ∧ 0 ≤ m ∧ m ≤ 10000 ∧
  ∀ d H', Same H H' → H d = none → Dr H' d → Q (.ref d) H'
theorem ok_law_draws (T : Txt K mg) : FnOk P w K mg base CX0 1 T.a_law_draws T.d_law_draws P_law_draws (spDraws K) := by
  refine T.F_law_draws.ok sc_law_draws (fun vs H Q E h => ?_) (fun cdv A outer s H vs Q E hr h => ?_)
  · obtain ⟨a, ns, m, rfl, _⟩ := h
    rfl
  obtain ⟨a, ns, m, rfl, hS, hl, m0, m1, q⟩ := h
  refine ⟨_, (pss_cons (ps_setLc (i := 2) (own := [("cell", 3)]) (g := (gName 3)) (tt := tYes) rfl sc_law_draws.nd rfl rfl (sw_true rfl rfl rfl (by decide +kernel)) (pi_list (pv 0)) (blkOk_by (N := N_law_draws) (sc := defScope s_law_draws) (by decide +kernel)) (fun _ _ _ _ _ => (pg_name (i := 3) sc_law_draws.nd rfl (Or.inl rfl))) (fun _ _ _ _ _ => pts_nil) (fun _ _ _ _ _ => (pe_callTy call_int1 (by rfl) T.z_int (by decide +kernel) (pa_cons (pv 3) pa_nil))))
    (C8.pss_cut (ps_if (pt_cmpR op_eq (pe_callB call_len_seq (by rfl) T.z_len PySem.boot_len (pa_cons (pv 2) pa_nil)) pe_int (nomark _))
    (pss_one (ps_expr (pe_bm PySem.F.plainAttrs_list PySem.F.slot_list_append PySem.F.type_list_append mt_append (pv 2) (pa_cons pe_int pa_nil))))
    pss_nil)
    (pss_cons (ps_set (i := 4) sc_law_draws.nd rfl (Or.inl rfl) (pe_callTy call_list_of (by rfl) T.z_list (by decide +kernel) (pa_cons (pv 2) pa_nil)))
    (pss_cons (ps_set (i := 5) sc_law_draws.nd rfl (Or.inl rfl) (pe_lst pa_nil))
    (pss_cons (ps_for  PassesOwn.never rfl (pi_range1 (by rfl) T.z_range (pa_cons (pv 1) pa_nil)) (pg_name (i := 6) sc_law_draws.nd rfl (Or.inl rfl))
    (pss_cons (ps_set (i := 7) sc_law_draws.nd rfl (Or.inl rfl) (pe_op op_mod (pv 6) (pe_callB call_len_seq (by rfl) T.z_len PySem.boot_len (pa_cons (pv 2) pa_nil))))
    (pss_one (ps_if (pt_cmpR op_ge (pe_ix ix_list (pv 2) (pv 7) (fun _ _ => rfl)) (pe_op op_pow pe_int pe_int) (nomark _))
    (pss_cons (ps_expr (pe_bm PySem.F.plainAttrs_list PySem.F.slot_list_append PySem.F.type_list_append mt_append (pv 5) (pa_cons (pe_op op_mod (pe_callTy call_int1 (by rfl) T.z_int (by decide +kernel) (pa_cons (pe_ix ix_list (pv 4) (pv 7) (fun _ _ => rfl)) pa_nil)) pe_int) pa_nil)))
    (pss_one (ps_asg (pe_op op_fdiv (pe_ix ix_list (pv 4) (pv 7) (fun _ _ => rfl)) pe_int) (pg_sub (pv 4) (pv 7) set_list))))
    (pss_cons (ps_set (i := 8) sc_law_draws.nd rfl (Or.inl rfl) (pe_op op_mod (pe_callTy call_int1 (by rfl) T.z_int (by decide +kernel) (pa_cons (pe_op op_add (pe_op op_add (pe_op op_mul (pe_ix ix_list (pv 2) (pv 7) (fun _ _ => rfl)) pe_int) (pe_op op_mul (pv 6) pe_int)) pe_int) pa_nil)) pe_int))
    (pss_one (ps_expr (pe_bm PySem.F.plainAttrs_list PySem.F.slot_list_append PySem.F.type_list_append mt_append (pv 5) (pa_cons (pe_op op_mod (pe_callTy call_int1 (by rfl) T.z_int (by decide +kernel) (pa_cons (pe_op op_add (pe_op op_add (pe_op op_mul (pv 8) (pv 8)) (pe_op op_mul pe_int (pv 8))) (pv 6)) pa_nil)) pe_int) pa_nil)))))))))
    (pss_cons (ps_expr (pe_bm0 PySem.F.plainAttrs_list PySem.F.slot_list_reverse PySem.F.type_list_reverse mt_reverse (pv 5)))
    (pss_one (ps_ret (pv 5))))))))), ?_⟩
  -- cells
  refine ⟨_, rfl, a, rfl, ⟨_, hS⟩, fun c hc => ?_⟩
  refine lc_list (K := K) (a := a) (xs := ns.map V.int) (fun (j : Nat) (H' : Hp) => Same H H' ∧ H' c = some (.lst ((ns.take j).map V.int))) ?_ ?_ ?_ ?_
  · exact ⟨same_new hc _, by rw [upd_same, List.take_zero]; rfl⟩
  · rintro i H' _ ⟨s1, _⟩
    exact s1.seq hS
  · rintro i x H' hx ⟨s1, e1⟩
    rw [List.getElem?_map] at hx
    cases hn : ns[i]? with
    | none => rw [hn] at hx; cases hx
    | some n =>
      rw [hn] at hx
      obtain rfl : V.int n = x := Option.some.inj hx
      refine ⟨rfl, yes_if ?_⟩
      refine ⟨_, rfl, .inl ⟨n, rfl, _, e1, ?_, same_put s1 hc, ?_⟩⟩
      · rw [List.length_map, List.length_take]
        exact big' (by omega)
      · rw [upd_same, List.take_add_one, hn, List.map_append]
        rfl
  · rintro H1 ⟨s1, e1⟩
    rw [List.length_map, List.take_length] at e1
    -- at least one cell
    refine ⟨fun σ H2 => ∃ cs : List Int, cs ≠ [] ∧ cs.length ≤ 63 ∧ σ = [some (.ref a), some (.int m), some (.ref c), none, none, none, none, none, none] ∧ Same H H2 ∧ H2 c = some (.lst (cs.map V.int)), ?_, ?_⟩
    · refine ⟨_, rfl, _, _, rfl, .inl (sqd e1), rfl, _, rfl, ?_⟩
      refine ite2 (fun z => ?_) (fun z => ?_)
      · refine ⟨_, rfl, .inl ⟨rfl, _, sqd e1⟩, c, _, _, rfl, rfl, e1, ?_, ?_⟩
        · rw [List.length_map]
          exact big' (by omega)
        · have hz := int_eq z
          rw [List.length_map] at hz
          have : ns = [] := List.length_eq_zero_iff.mp (by omega)
          subst this
          exact ⟨[0], by simp, by decide, rfl, same_put s1 hc, upd_same⟩
      · have hz := int_ne z
        rw [List.length_map] at hz
        refine ⟨ns, ?_, hl, rfl, s1, e1⟩
        rintro rfl
        exact hz rfl
    · rintro σ H2 ⟨cs, hcs, hcl, rfl, s2, e2⟩
      have hpos : 0 < cs.length := List.length_pos_iff.mpr hcs
      -- rest, draws
      refine ⟨_, rfl, _, _, rfl, .inl (sqd e2), fun r hr2 => ?_⟩
      have ncr : c ≠ r := ne_of_none e2 hr2
      refine ⟨(Nat.le_of_ble_eq_true rfl), fun d hd => ?_⟩
      have ncd : c ≠ d := ne_of_none (by rw [upd_ne ncr]; exact e2) hd
      have nrd : r ≠ d := ne_of_none upd_same hd
      have hHr : H r = none := s2.free hr2
      have hHd : H d = none := (s2.trans (same_new hr2 _)).free hd
      refine ⟨_, rfl, m, rfl, by omega, by omega, for_range (lo := 0) (n := m.toNat) (fun (j : Nat) (σ : L2.St) (H' : Hp) => ∃ (rs ds : List Int) (y1 y2 y3 : Option V), σ = [some (.ref a), some (.int m), some (.ref c), none, some (.ref r), some (.ref d), y1, y2, y3] ∧ Same H H' ∧ H' c = some (.lst (cs.map V.int)) ∧ H' r = some (.lst (rs.map V.int)) ∧ rs.length = cs.length ∧ H' d = some (.lst (ds.map V.int)) ∧ ds.length ≤ j) ?_ ?_ ?_⟩
      · refine ⟨cs, [], none, none, none, rfl, (s2.trans (same_new hr2 _)).trans (same_new hd _), ?_, ?_, rfl, upd_same, Nat.le_refl _⟩
        · rw [upd_ne ncd, upd_ne ncr]; exact e2
        · rw [upd_ne nrd]; exact upd_same
      · rintro j σ H' hj ⟨rs, ds, y1, y2, y3, rfl, s3, ec, er, hrl, ed, hdl⟩
        have b0 := Int.emod_nonneg ((0 : Int) + (j : Int)) (show (((cs.map V.int).length : Nat) : Int) ≠ 0 by rw [List.length_map]; omega)
        have b1 : (((0 : Int) + (j : Int)) % (((cs.map V.int).length : Nat) : Int)) < (cs.length : Int) := by
          have h := Int.emod_lt_of_pos ((0 : Int) + (j : Int)) (show 0 < (((cs.map V.int).length : Nat) : Int) by rw [List.length_map]; omega)
          rw [List.length_map] at h ⊢
          exact h
        refine ⟨_, rfl, _, rfl, _, _, rfl, .inl (sqd ec), _, _, rfl, rfl, (by show 0 < (((cs.map V.int).length : Nat) : Int); rw [List.length_map]; omega), ?_⟩
        obtain ⟨cv, hcv, _⟩ := atI_map (f := V.int) (xs := cs) b0 b1
        obtain ⟨rv, hrv, _⟩ := atI_map (f := V.int) (xs := rs) b0 (by omega)
        refine ⟨_, rfl, _, rfl, _, _, _, _, rfl, rfl, sqd ec, hcv, _, _, rfl, rfl, ⟨by decide, by decide, by decide⟩, _, _, rfl, rfl, _, rfl, ?_⟩
        refine ite2 (fun z => ?_) (fun z => ?_)
        · refine ⟨_, rfl, .inl ⟨rfl, _, sqd ed⟩, _, rfl, _, rfl, _, _, _, _, rfl, rfl, sqd er, hrv, .inl ⟨_, rfl, _, _, rfl, rfl, (by show (0 : Int) < 1000; decide), d, _, _, rfl, rfl, ed, ?_, ?_⟩⟩
          · rw [List.length_map]
            exact big' (by omega)
          · have er2 : ∀ o, (upd H' d o) r = some (.lst (rs.map V.int)) := fun o => by rw [upd_ne nrd]; exact er
            refine ⟨_, rfl, _, rfl, _, _, _, _, rfl, rfl, sqd (er2 _), hrv, _, _, rfl, rfl, ⟨by decide, by decide⟩, _, rfl, _, rfl, r, _, _, _, rfl, rfl, er2 _, ixN_in b0 (by have h : (rs.map V.int).length = rs.length := List.length_map _; omega), ?_⟩
            refine ⟨rs.set (((0 : Int) + (j : Int)) % (((cs.map V.int).length : Nat) : Int)).toNat (rv / 1000), ds ++ [rv % 1000], _, _, _, rfl, same_put (same_put s3 hHd) hHr, ?_, ?_, ?_, ?_, ?_⟩
            · rw [upd_ne ncr, upd_ne ncd]; exact ec
            · rw [upd_same, List.map_set]
            · rw [List.length_set]; exact hrl
            · rw [upd_ne nrd.symm, upd_same, List.map_append]; rfl
            · rw [List.length_append, List.length_singleton]; omega
        · have o0 := fun z : Int => Int.emod_nonneg z (by decide : (2147483647 : Int) ≠ 0)
          have o1 := fun z : Int => Int.emod_lt_of_pos z (by decide : (0 : Int) < 2147483647)
          refine ⟨_, rfl, _, rfl, _, _, _, _, rfl, rfl, sqd ec, hcv, _, _, rfl, rfl, .inr ⟨by decide, by decide⟩, _, rfl, _, _, rfl, rfl, .inr ⟨by decide, by decide⟩, _, _, rfl, rfl, _, _, rfl, rfl, .inl ⟨_, rfl, _, _, rfl, rfl, (by show (0 : Int) < 2147483647; decide), ?_⟩⟩
          refine ⟨_, rfl, .inl ⟨rfl, _, sqd ed⟩, _, rfl, _, rfl, _, _, rfl, rfl, ?_, ?_⟩
          · left
            have h1 := o0 (cv * 48271 + (0 + (j : Int)) * 69621 + 11)
            have h2 := o1 (cv * 48271 + (0 + (j : Int)) * 69621 + 11)
            constructor
            · show -(2 ^ 64) < _
              omega
            · show _ < 2 ^ 64
              omega
          · refine ⟨_, rfl, _, _, rfl, rfl, .inl ⟨by decide, by decide⟩, _, _, rfl, rfl, _, rfl, _, _, rfl, rfl, .inl ⟨_, rfl, _, _, rfl, rfl, (by show (0 : Int) < 1000003; decide), d, _, _, rfl, rfl, ed, ?_, ?_⟩⟩
            · rw [List.length_map]
              exact big' (by omega)
            · refine ⟨rs, ds ++ [(((cv * 48271 + (0 + (j : Int)) * 69621 + 11) % 2147483647) * ((cv * 48271 + (0 + (j : Int)) * 69621 + 11) % 2147483647) + 3 * ((cv * 48271 + (0 + (j : Int)) * 69621 + 11) % 2147483647) + (0 + (j : Int))) % 1000003], _, _, _, rfl, same_put s3 hHd, ?_, ?_, hrl, ?_, ?_⟩
              · rw [upd_ne ncd]; exact ec
              · rw [upd_ne nrd]; exact er
              · rw [upd_same, List.map_append]; rfl
              · rw [List.length_append, List.length_singleton]; omega
      · rintro σ H' ⟨rs, ds, y1, y2, y3, rfl, s3, ec, er, hrl, ed, hdl⟩
        refine ⟨_, rfl, .inl ⟨rfl, _, sqd ed⟩, d, _, rfl, rfl, ed, ?_⟩
        refine ⟨_, rfl, q d _ (same_put s3 hHd) hHd ⟨ds.reverse, ?_⟩⟩
        rw [upd_same, List.map_reverse]
end
end NL

namespace NL
open PySem PySem.Spec PyProof.Rows L2
/-! ### rows and what stands in them -/
def Each {α : Type} (R : α → V → Prop) (l : List α) (xs : List V) : Prop := xs.length = l.length ∧ ∀ (k : Nat) a x, l[k]? = some a → xs[k]? = some x → R a x
theorem Each.nil {α : Type} {R : α → V → Prop} : Each R [] [] := ⟨rfl, fun k a x h => by simp at h⟩
theorem Each.mono {α : Type} {R S : α → V → Prop} {l : List α} {xs : List V} (h : Each R l xs) (f : ∀ a x, R a x → S a x) : Each S l xs := ⟨h.1, fun k a x e g => f a x (h.2 k a x e g)⟩
theorem Each.cons {α : Type} {R : α → V → Prop} {l : List α} {xs : List V} {a : α} {x : V} (r : R a x) (h : Each R l xs) : Each R (a :: l) (x :: xs) := ⟨by rw [List.length_cons, List.length_cons, h.1], fun k b y e g => by
  cases k with
  | zero => cases e; cases g; exact r
  | succ k => exact h.2 k b y e g⟩
theorem Each.app {α : Type} {R : α → V → Prop} {l m : List α} {xs ys : List V} (h : Each R l xs) (g : Each R m ys) : Each R (l ++ m) (xs ++ ys) := by
  refine ⟨by rw [List.length_append, List.length_append, h.1, g.1], fun k r x e f => ?_⟩
  by_cases hk : k < l.length
  · rw [List.getElem?_append_left hk] at e
    rw [List.getElem?_append_left (by rw [h.1]; exact hk)] at f
    exact h.2 k r x e f
  · rw [List.getElem?_append_right (by omega)] at e
    rw [List.getElem?_append_right (by rw [h.1]; omega), h.1] at f
    exact g.2 _ r x e f
theorem Each.snoc {α : Type} {R : α → V → Prop} {l : List α} {xs : List V} {a : α} {x : V} (h : Each R l xs) (r : R a x) : Each R (l ++ [a]) (xs ++ [x]) := h.app (.cons r .nil)
theorem Each.take {α : Type} {R : α → V → Prop} {l : List α} {xs : List V} (h : Each R l xs) (n : Nat) : Each R (l.take n) (xs.take n) := ⟨by rw [List.length_take, List.length_take, h.1], fun k a x e g => by
  rw [List.getElem?_take] at e g
  split at e
  · rename_i hk
    rw [if_pos hk] at g
    exact h.2 k a x e g
  · cases e⟩
theorem Each.drop {α : Type} {R : α → V → Prop} {l : List α} {xs : List V} (h : Each R l xs) (n : Nat) : Each R (l.drop n) (xs.drop n) := ⟨by rw [List.length_drop, List.length_drop, h.1], fun k a x e g => by
  rw [List.getElem?_drop] at e g
  exact h.2 _ a x e g⟩
theorem Each.set {α : Type} {R : α → V → Prop} {l : List α} {xs : List V} {a : α} {x : V} (h : Each R l xs) (n : Nat) (r : R a x) : Each R (l.set n a) (xs.set n x) := ⟨by rw [List.length_set, List.length_set, h.1], fun k b y e g => by
  rw [List.getElem?_set] at e g
  by_cases hk : n = k
  · rw [if_pos hk] at e g
    by_cases hl : n < l.length
    · rw [if_pos hl] at e
      rw [if_pos (by rw [h.1]; exact hl)] at g
      cases e; cases g; exact r
    · rw [if_neg hl] at e
      cases e
  · rw [if_neg hk] at e g
    exact h.2 k b y e g⟩
theorem Each.at {α : Type} {R : α → V → Prop} {l : List α} {xs : List V} {a : α} {k : Nat} (h : Each R l xs) (e : l[k]? = some a) : ∃ x, xs[k]? = some x ∧ R a x := by
  have hk : k < xs.length := by
    rw [h.1]
    exact (List.getElem?_eq_some_iff.mp e).1
  exact ⟨_, List.getElem?_eq_getElem hk, h.2 k a _ e (List.getElem?_eq_getElem hk)⟩
theorem Each.atI {α : Type} {R : α → V → Prop} {l : List α} {xs : List V} {i : Int} (h : Each R l xs) (h0 : 0 ≤ i) (h1 : i < l.length) : ∃ a x, l[i.toNat]? = some a ∧ atI xs i = some x ∧ R a x := by
  have hk : i.toNat < l.length := by omega
  obtain ⟨x, hx, r⟩ := h.at (List.getElem?_eq_getElem hk)
  have q : L2.atI xs ((i.toNat : Nat) : Int) = some x := atI_nat hx
  rw [show ((i.toNat : Nat) : Int) = i by omega] at q
  exact ⟨_, x, List.getElem?_eq_getElem hk, q, r⟩
/-! ### options, positions, arenas -/
abbrev Opt := List Int
abbrev Pos' := List Opt
abbrev Ar := List Pos'
def OptIn (H : Hp) (o : Opt) (v : V) : Prop := ∃ b, v = .ref b ∧ H b = some (.tup (o.map V.int))
def PosIn (H : Hp) (os : Pos') (v : V) : Prop := ∃ b xs, v = .ref b ∧ H b = some (.tup xs) ∧ Each (OptIn H) os xs
def ArIn (H : Hp) (A : Ar) (v : V) : Prop := ∃ b xs, v = .ref b ∧ H b = some (.tup xs) ∧ Each (PosIn H) A xs
theorem OptIn.tp {H H' : Hp} {o : Opt} {v : V} (t : Tp H H') (h : OptIn H o v) : OptIn H' o v := by
  obtain ⟨b, e, q⟩ := h
  exact ⟨b, e, t _ _ q⟩
theorem PosIn.tp {H H' : Hp} {o : Pos'} {v : V} (t : Tp H H') (h : PosIn H o v) : PosIn H' o v := by
  obtain ⟨b, xs, e, q, r⟩ := h
  exact ⟨b, xs, e, t _ _ q, r.mono fun a x => OptIn.tp t⟩
theorem ArIn.tp {H H' : Hp} {o : Ar} {v : V} (t : Tp H H') (h : ArIn H o v) : ArIn H' o v := by
  obtain ⟨b, xs, e, q, r⟩ := h
  exact ⟨b, xs, e, t _ _ q, r.mono fun a x => PosIn.tp t⟩
/-- an option of an arena with n positions -/
structure OptG (n : Int) (o : Opt) : Prop where
  ne : o ≠ []
  len : o.length ≤ 60
  mem : ∀ s ∈ o, -1 ≤ s ∧ s < n
  asc : o.Pairwise (· < ·)
def PosG (n : Int) (os : Pos') : Prop := os.length ≤ 12 ∧ ∀ o ∈ os, OptG n o
def ArG (A : Ar) : Prop := A.length ≤ 46 ∧ ∀ os ∈ A, PosG A.length os
theorem OptG.one {n s : Int} (h0 : -1 ≤ s) (h1 : s < n) : OptG n [s] := ⟨by simp, by simp, fun t ht => by rw [List.mem_singleton.mp ht]; exact ⟨h0, h1⟩, List.pairwise_singleton _ _⟩
theorem asc_of {l m : List Int} (h : l.Perm m) (hm : m.Nodup) (hp : l.Pairwise (· ≤ ·)) : l.Pairwise (· < ·) := by
  have hn : l.Nodup := h.nodup_iff.mpr hm
  refine (hp.and hn).imp fun {a b} h => ?_
  obtain ⟨h1, h2⟩ := h
  omega
theorem tp_put {H H' : Hp} {p : Addr} {o : List V} {o' : HO} (t : Tp H H') (h : H' p = some (.lst o)) : Tp H (upd H' p o') := fun a xs e => by
  have n : a ≠ p := fun q => by
    have := t a xs e
    rw [q, h] at this
    cases this
  rw [upd_ne n]
  exact t a xs e
theorem Go.put2 {d p : Addr} {H H' : Hp} {o : HO} (g : Go d H H') (hp : H p = none) (n : p ≠ d) : Go d H (upd H' p o) := ⟨fun b u hb e => by
  rw [upd_ne (ne_of_none e hp)]
  exact g.fr b u hb e, by
  obtain ⟨ns, e⟩ := g.dr
  exact ⟨ns, by rw [upd_ne n.symm]; exact e⟩⟩
theorem new_ne {d p : Addr} {H : Hp} (h : Dr H d) (hp : H p = none) : p ≠ d := by
  rintro rfl
  obtain ⟨ns, e⟩ := h
  rw [hp] at e
  cases e
theorem Go.free {d p : Addr} {H H' : Hp} (g : Go d H H') (hp : H' p = none) : H p = none := by
  cases e : H p with
  | none => rfl
  | some o =>
    by_cases hd : p = d
    · obtain ⟨ns, q⟩ := g.dr
      rw [hd, q] at hp
      cases hp
    · rw [g.fr p o hd e] at hp
      cases hp
end NL

set_option maxHeartbeats 4000000
namespace NL
open PySem PySem.Spec PyProof.Rows L2
section
variable {P : Program} {w : World} {A : Around} {E : Value → Shared → Prop} {s : Shared}
set_option maxHeartbeats 3200000 in
theorem call_set_ints {l : Addr} {items : Array Value} (ns : List Int) {Q : Value → Shared → Prop} (hh : A.handled = none) (hl : s.heap.IsList l items) (hit : IntsAre items.toList ns) (hb : ns.length + 1 < scanBound)
    (h : ∀ (h' : Heap) (tk c : Nat), SetR w h' s.heap.objs.size (fun j => decide (j ∈ ns)) c → c ≤ ns.length → (∀ b o, s.heap.get? b = some o → h'.get? b = some o) → Q (.ref s.heap.objs.size) { s with heap := h', toks := tk }) :
    wpAny (model P w) A (call (.type "set") [.ref l]) Q E s := by
  have hisz : items.size = ns.length := by
    have q := IntsAre.length hit
    rw [Array.length_toList] at q
    exact q
  obtain ⟨c, tl, hmro⟩ := F.called_set.mro
  have hmade := F.called_set.made
  have hsub := F.called_set.sub
  refine wpAny_call (codeAny_of_tree ?_)
  show wpAny _ _ (callAny (.type "set") _) _ _ _
  refine wpAny_pure ⟨Code.quiet_builtin _ (by decide +kernel), codeAny_builtin F.entry_type_call ?_⟩
  rw [Around.under_plain (weight_type_call_type "set" [.ref l] []) rfl]
  have h1 := F.called_set.notType
  have h2 := F.called_set.canCreate
  have hct := F.typeCall_set_1 (.ref l)
  repeat (any_goals (first | assumption | wp_step))
  refine codeAny_mono (code_set_led1 (.ref l) (E := E) (Q₁ := fun obj s₁ => obj = .ref s.heap.objs.size ∧ s₁ = { s with heap := s.heap.push { cls := .type "set", dict := none, data := .set #[] 0 (.fresh 0 0 (!w.params.followText "set-order")) } }) ⟨rfl, rfl⟩) fun r s₁ hr => ?_
  cases r with
  | error e => exact hr
  | ok fl =>
    cases fl with
    | ret obj =>
      obtain ⟨rfl, rfl⟩ := hr
      have hS : (s.heap.push { cls := .type "set", dict := none, data := .set #[] 0 (.fresh 0 0 (!w.params.followText "set-order")) }).get? s.heap.objs.size = some { cls := .type "set", dict := none, data := .set #[] 0 (.fresh 0 0 (!w.params.followText "set-order")) } := Heap.get?_push_size _ rfl
      have hT : Shared.TypeIs { s with heap := s.heap.push { cls := .type "set", dict := none, data := .set #[] 0 (.fresh 0 0 (!w.params.followText "set-order")) } } (.ref s.heap.objs.size) "set" := ⟨_, hS, rfl⟩
      have hli := F.called_set.init.lookup
      have hbi := F.called_set.init.bind (.ref s.heap.objs.size)
      repeat (any_goals (first | assumption | wp_step))
      refine codeAny_mono (codeAny_call_builtin (R := wants (fun r s₂ => r = .none ∧ ∃ h' tk c, s₂ = { s with heap := h', toks := tk } ∧ SetR w h' s.heap.objs.size (fun j => decide (j ∈ ns)) c ∧ c ≤ ns.length ∧
          (∀ b o, s.heap.get? b = some o → h'.get? b = some o)) E) F.called_set.init.plain F.entry_set_init (check_set_init_1 hT ?_)) fun r₂ s₂ hr₂ => ?_
      · obtain ⟨ol, hol, hcl, nl, hdl⟩ := hl
        obtain ⟨ocls, odict, odata, oslots⟩ := ol
        simp only at hcl hdl
        subst hcl; subst hdl
        have hol' : (s.heap.push { cls := .type "set", dict := none, data := .set #[] 0 (.fresh 0 0 (!w.params.followText "set-order")) }).get? l = some { cls := .type "list", dict := odict, data := .seq items nl, slots := oslots } := Heap.get?_push_of_some _ hol
        have hsls := F.sub_list_set
        have hslf := F.sub_list_frozenset
        have hne : (Value.type "list" == Value.type "dict") = false := by decide
        have hl1 : (s.heap.push { cls := .type "set", dict := none, data := .set #[] 0 (.fresh 0 0 (!w.params.followText "set-order")) }).IsList l items := ⟨_, hol', rfl, nl, rfl⟩
        unfold Builtin.«set.__init__» noKeywords Builtin.Frozenset.updateFrom
        generalize hPI : pyIter = PI
        wp_walk
        subst hPI
        refine wpAny_pyIter_list hl1 ?_
        refine wpAny_bind (wpAny_runValue ?_)
        have hlS : l < s.heap.objs.size := Heap.lt_size hol
        have hh3 : A.in1.in1.in1.handled = none := by simp [hh]
        have hneI : l ≠ (s.heap.push { cls := .type "set", dict := none, data := .set #[] 0 (.fresh 0 0 (!w.params.followText "set-order")) }).objs.size := by
          rw [Heap.size_push]; exact Nat.ne_of_lt (Nat.lt_succ_of_lt hlS)
        have hSf : s.heap.objs.size ∉ [(s.heap.push { cls := .type "set", dict := none, data := .set #[] 0 (.fresh 0 0 (!w.params.followText "set-order")) }).objs.size, l] := by
          rw [Heap.size_push]; simp only [List.mem_cons, List.mem_singleton, List.not_mem_nil, or_false, not_or]
          exact ⟨Nat.ne_of_lt (Nat.lt_succ_self _), Nat.ne_of_gt hlS⟩
        have hval : ∀ (i : Nat) (v : Value), items[i]? = some v → ∃ k t, ns[i]? = some k ∧ v = .int k t := fun i v hv => by
          obtain ⟨n, t, e1, e2⟩ := IntsAre.at hit i v (by rw [Array.getElem?_toList]; exact hv)
          exact ⟨n, t, e2, e1⟩
        refine set_update_ints ((Walks.list hh3 _ l hneI items).toS) s.heap.objs.size
          hSf ns hisz hb hval (items.size - 0) 0 _ (by omega) (Nat.zero_le _)
          ⟨⟨_, Heap.get?_push_size _ rfl, rfl, rfl⟩, (hl1.push _)⟩ ?hS0 ?hR
        case hS0 =>
          have hget : ((s.heap.push { cls := .type "set", dict := none, data := .set #[] 0 (.fresh 0 0 (!w.params.followText "set-order")) }).push { cls := .type "list_iterator", data := .fields #[.ref l, .int 0 0] }).get? s.heap.objs.size
              = some { cls := .type "set", dict := none, data := .set #[] 0 (.fresh 0 0 (!w.params.followText "set-order")) } := Heap.get?_push_of_some _ hS
          exact ⟨0, Nat.le_refl 0, setR_new_at hget⟩
        case hR =>
          intro s' c' hm hc' hS'
          obtain ⟨h', g2, d', tk', os'⟩ := s'
          have eg : g2 = s.gens := hm.gens
          have ed : d' = s.drawn := hm.drawn
          have eo : os' = s.os := hm.os
          subst eg; subst ed; subst eo
          show wpAny _ _ _ _ _ _
          refine wpAny_pure ?_
          show wpAny _ _ (ret Value.none) _ _ _
          rw [hisz] at hc'
          refine wpAny_pure ⟨rfl, h', tk', c', rfl, hS', hc', fun b o e => ?_⟩
          have hb0 : b < s.heap.objs.size := Heap.lt_size e
          have hb1 : b ≠ s.heap.objs.size := Nat.ne_of_lt hb0
          have hb2 : b ≠ (s.heap.push { cls := .type "set", dict := none, data := .set #[] 0 (.fresh 0 0 (!w.params.followText "set-order")) }).objs.size := by
            rw [Heap.size_push]; exact Nat.ne_of_lt (Nat.lt_succ_of_lt hb0)
          exact hm.heap b o (by simp only [List.mem_cons, List.mem_singleton, List.not_mem_nil, or_false, not_or]; exact ⟨hb1, hb2⟩) (Heap.get?_push_of_some _ (Heap.get?_push_of_some _ e))
      · cases r₂ with
        | error e => exact hr₂
        | ok fl₂ =>
          cases fl₂ with
          | ret r =>
            obtain ⟨rfl, h', tk, c', rfl, hS', hc', hk'⟩ := hr₂
            repeat (any_goals (first | assumption | wp_step))
            exact h _ _ _ hS' hc' hk'
          | _ => exact hr₂.elim
    | _ => exact hr.elim
end
variable {X : Cx}
def rSetOfI (K : PySem.W.Frag) (w : World) : List V → Hp → VK → Prop := fun xs H Q => ∃ (l : Addr) (ns : List Int), xs = [.ref l] ∧ SqL K H l (ns.map V.int) ∧ ns.length < 64 ∧ ∀ a c, H a = none → c ≤ ns.length → Q (.ref a) (upd H a (SetO w a (fun j => decide (j ∈ ns)) c))
theorem cr_setOfI (hc : X.calm = true) : CallR X (.type "set") (rSetOfI X.K X.w) := by
  intro pins s σ H xs us Q I r h
  obtain ⟨l, ks, rfl, hl, hf, q⟩ := h
  rw [Vals.ref1 r]
  obtain ⟨its, rv, pl, hz⟩ := I.list hl
  have hn : H s.heap.objs.size = none := I.hok.fresh (Nat.le_refl _)
  refine call_set_ints (P := X.prog) (w := X.w) ks (I.ok.hd hc) pl.isList (by simpa using ints_of_vals rv) (by unfold scanBound; omega) fun h' tk c R hc' k => ?_
  exact ⟨.ref s.heap.objs.size, upd H s.heap.objs.size (SetO X.w s.heap.objs.size _ c), I.laid (t' := tk) k (Nat.le_refl _) (setO_new R), rfl, q _ c hn hc'⟩
end NL

namespace NL
open PySem PySem.Spec PyProof.Rows L2 L2H HotX
/-! ### ascending successors -/
def ascB : Int → Int → List Int → Bool
  | _, _, [] => true
  | low, n, x :: r => decide (low ≤ x) && (decide (x < n) && ascB (x + 1) n r)
def okO (n : Int) (o : Opt) : Bool := !decide (o = []) && ascB (-1) n o
def okA (A : Ar) : Bool := A.all fun os => os.all (okO A.length)
theorem asc_good : ∀ {low n : Int} {o : List Int}, (∀ s ∈ o, low ≤ s ∧ s < n) → o.Pairwise (· < ·) → ascB low n o = true
  | _, _, [], _, _ => rfl
  | low, n, x :: r, h, p => by
    obtain ⟨h1, h2⟩ := List.pairwise_cons.mp p
    obtain ⟨h3, h4⟩ := h x List.mem_cons_self
    rw [ascB, decide_eq_true h3, decide_eq_true h4, asc_good (fun s hs => ⟨h1 s hs, (h s (List.mem_cons_of_mem _ hs)).2⟩) h2]
    rfl
theorem okO_good {n : Int} {o : Opt} (h : OptG n o) : okO n o = true := by
  unfold okO
  rw [decide_eq_false h.ne, asc_good h.mem h.asc]
  rfl
theorem asc_low : ∀ {low n : Int} {o : List Int}, ascB low n o = true → ∀ s ∈ o, low ≤ s ∧ s < n
  | _, _, [], _, s, hs => nomatch hs
  | low, n, x :: r, h, s, hs => by
    rw [ascB, Bool.and_eq_true, Bool.and_eq_true, decide_eq_true_eq, decide_eq_true_eq] at h
    obtain ⟨h1, h2, h3⟩ := h
    rcases List.mem_cons.mp hs with rfl | hs
    · exact ⟨h1, h2⟩
    · have := asc_low h3 s hs
      omega
theorem asc_pair : ∀ {low n : Int} {a : List Int} {x y : Int} {b : List Int}, ascB low n (a ++ x :: y :: b) = true → x < y
  | low, n, [], x, y, b, h => by
    rw [List.nil_append, ascB, Bool.and_eq_true, Bool.and_eq_true] at h
    have := asc_low h.2.2 y List.mem_cons_self
    omega
  | low, n, c :: a, x, y, b, h => by
    rw [List.cons_append, ascB, Bool.and_eq_true, Bool.and_eq_true] at h
    exact asc_pair h.2.2
theorem okA_good {A : Ar} (h : ArG A) : okA A = true := List.all_eq_true.mpr fun os hos => List.all_eq_true.mpr fun o ho => okO_good ((h.2 os hos).2 o ho)
section
variable {P : Program} {w : World} {K : PySem.W.Frag} {mg : Str → Option Value} {base : Heap}
/-! ### is_ascending -/
def spAsc : Sp := fun vs H Q _ => ∃ (b : Addr) (o : List Int) (low n : Int), vs = [.ref b, .int low, .int n] ∧ H b = some (.tup (o.map V.int)) ∧ Q (.bl (ascB low n o)) H
theorem asc_drop {low n : Int} {o : List Int} {j : Nat} {x : Int} (h : o[j]? = some x) : ascB low n (o.drop j) = (decide (low ≤ x) && (decide (x < n) && ascB (x + 1) n (o.drop (j + 1)))) := by
  obtain ⟨h1, e1⟩ := List.getElem?_eq_some_iff.mp h
  rw [List.drop_eq_getElem_cons h1, ascB, e1]
theorem ok_is_ascending (T : Txt K mg) : FnOk P w K mg base CX0 1 T.ais_ascending T.dis_ascending Pis_ascending spAsc := by
  refine T.Fis_ascending.ok scis_ascending (fun vs H Q E h => ?_) (fun cdv A outer s H vs Q E hr h => ?_)
  · obtain ⟨b, o, low, n, rfl, _⟩ := h
    rfl
  obtain ⟨b, o, low, n, rfl, hb, q⟩ := h
  refine ⟨_, (pss_cons (ps_set (i := 3) scis_ascending.nd rfl (Or.inl rfl) (pv 1))
    (pss_cons (ps_for  PassesOwn.never rfl (pi_tup (pv 0)) (pg_name (i := 4) scis_ascending.nd rfl (Or.inl rfl))
    (pss_cons (ps_if (pt_not (pt_chain op_le op_lt (pv 3) (pv 4) (pv 2)))
    (pss_one (ps_ret pe_bl))
    pss_nil)
    (pss_one (ps_set (i := 3) scis_ascending.nd rfl (Or.inl rfl) (pe_op op_add (pv 4) pe_int)))))
    (pss_one (ps_ret pe_bl)))), ?_⟩
  refine ⟨_, rfl, ?_⟩
  refine ⟨_, rfl, b, rfl, ⟨_, sqt hb⟩, for_tup (K := K) (a := b) (xs := o.map V.int) (fun (j : Nat) (σ : L2.St) (H' : Hp) => ∃ (l : Int) (y4 : Option V), σ = [some (.ref b), some (.int low), some (.int n), some (.int l), y4] ∧ H' = H ∧ ascB low n o = ascB l n (o.drop j)) ?_ ?_ ?_ ?_⟩
  · exact ⟨low, none, rfl, rfl, by rw [List.drop_zero]⟩
  · rintro j σ H' _ ⟨l, y4, rfl, rfl, _⟩
    exact sqt hb
  · rintro j x σ H' hx ⟨l, y4, rfl, rfl, he⟩
    rw [List.getElem?_map] at hx
    obtain ⟨i, hi, rfl⟩ := Option.map_eq_some_iff.mp hx
    rw [asc_drop hi] at he
    refine ⟨_, rfl, _, rfl, _, _, rfl, rfl, _, rfl, ?_⟩
    by_cases h1 : l ≤ i
    case neg =>
      refine ifF (decide_eq_false h1) ⟨_, rfl, iteT ?_⟩
      rw [decide_eq_false h1, Bool.false_and] at he
      rw [he] at q
      exact q
    refine ifT (decide_eq_true h1) ⟨_, rfl, _, _, rfl, rfl, _, rfl, ?_⟩
    rw [decide_eq_true h1, Bool.true_and] at he
    by_cases h2 : i < n
    case neg =>
      refine ifT (by rw [decide_eq_false h2] <;> rfl) ?_
      rw [decide_eq_false h2, Bool.false_and] at he
      rw [he] at q
      exact q
    refine ifF (by rw [decide_eq_true h2] <;> rfl) ?_
    rw [decide_eq_true h2, Bool.true_and] at he
    exact ⟨_, rfl, _, _, rfl, rfl, i + 1, _, rfl, rfl, he⟩
  · rintro σ H' ⟨l, y4, rfl, rfl, he⟩
    rw [List.length_map, List.drop_length] at he
    rw [he] at q
    exact q
/-! ### check_arena -/
theorem dp_ints {K : PySem.W.Frag} {H : Hp} : ∀ l : List Int, DpAll K H (l.map V.int) (l.map PyData.int)
  | [] => .nil
  | a :: r => .cons (.int a) (dp_ints r)
theorem lay_ints : ∀ l : List Int, PyData.canLayAll0 (l.map PyData.int) = true ∧ PyData.depthAll (l.map PyData.int) = 0
  | [] => ⟨rfl, rfl⟩
  | a :: r => by
    obtain ⟨h1, h2⟩ := lay_ints r
    refine ⟨?_, ?_⟩
    · show (true && PyData.canLayAll0 (r.map PyData.int)) = true
      rw [h1]
      rfl
    · show max 0 (PyData.depthAll (r.map PyData.int)) = 0
      rw [h2]
      rfl
theorem shaped_tup (l : List Int) : SeqAt.shaped (.tuple (l.map PyData.int)) = true := by
  obtain ⟨h1, h2⟩ := lay_ints l
  show (PyData.canLayAll0 (l.map PyData.int) && decide (PyData.depthAll (l.map PyData.int) + 1 ≤ 64)) = true
  rw [h1, h2]
  rfl
def spCheckArena (D : Addr) : Sp := fun vs H Q E => ∃ (v : V) (A : Ar), vs = [v] ∧ ArIn H A v ∧ (okA A = true → ∀ H', Same H H' → Q .non H') ∧ (okA A = false → ∀ H', Same H H' → E (.ref D) none H')
theorem ok_check_arena (T : Txt K mg) (EX : Exs K mg) : FnOk P w K mg base (L2N.CX P w) 2 T.acheck_arena T.dcheck_arena Pcheck_arena (spCheckArena EX.c_InvalidArena) := by
  have Gis_ascending := ok_is_ascending (P := P) (w := w) (base := base) T
  refine okN T.Fcheck_arena sccheck_arena (fun vs H Q E h => ?_) (fun cdv A outer s H vs Q E hr h => ?_)
  · obtain ⟨v, A, rfl, _⟩ := h
    rfl
  obtain ⟨v, A0, rfl, ⟨b0, xs, rfl, e0, hxs⟩, q, qE⟩ := h
  refine ⟨_, (pss_one (ps_for  (passes_of rfl) rfl (pi_tup (pv 0)) (pg_name (i := 1) sccheck_arena.nd rfl (Or.inl rfl))
    (pss_one (ps_for  (passes_of rfl) rfl (pi_tup (pv 1)) (pg_name (i := 2) sccheck_arena.nd rfl (Or.inl rfl))
    (pss_cons (ps_if (pt_cmpR (op_eqD hr.units) (pv 2) (pe_tup pa_nil) (nomark _))
    (pss_one (L2N.ps_raise rfl (L2N.takes_of rfl rfl rfl rfl) (L2N.pmk_own PySem.F.excBase_ValueError EX.x EX.g_InvalidArena EX.k (raises_own EX.b EX.t_InvalidArena) rfl)))
    pss_nil)
    (pss_one (ps_if (pt_not (pt_val (pe_call Gis_ascending (hr.mono (by omega)) (by rfl) T.mis_ascending T.Fis_ascending.kp T.bis_ascending .nil pass0 (pa_cons (pv 2) (pa_cons (pe_un un_neg pe_int) (pa_cons (pe_callB call_len_seq (by rfl) T.z_len PySem.boot_len (pa_cons (pv 0) pa_nil)) pa_nil))))))
    (pss_one (L2N.ps_raise rfl (L2N.takes_of rfl rfl rfl rfl) (L2N.pmk_own PySem.F.excBase_ValueError EX.x EX.g_InvalidArena EX.k (raises_own EX.b EX.t_InvalidArena) rfl)))
    pss_nil))))))), ?_⟩
  have bad : ∀ os ∈ A0, ∀ o ∈ os, okO A0.length o = false → okA A0 = false := fun os hos o ho h => by
    cases e : okA A0 with
    | false => rfl
    | true =>
      have := List.all_eq_true.mp (List.all_eq_true.mp e os hos) o ho
      rw [h] at this
      cases this
  refine ⟨_, rfl, b0, rfl, ⟨_, sqt e0⟩, for_tup (K := K) (a := b0) (xs := xs) (fun (j : Nat) (σ : L2.St) (H' : Hp) => ∃ (y1 y2 : Option V), σ = [some (.ref b0), y1, y2] ∧ Same H H' ∧ ∀ os ∈ A0.take j, ∀ o ∈ os, okO A0.length o = true) ?_ ?_ ?_ ?_⟩
  · exact ⟨none, none, rfl, Same.refl H, fun os h => by rw [List.take_zero] at h; cases h⟩
  · rintro j σ H' _ ⟨y1, y2, rfl, s1, _⟩
    exact sqt (s1 _ _ e0)
  · rintro j x σ H1 hx ⟨y1, y2, rfl, s1, hok⟩
    have hj : j < A0.length := by
      rw [← hxs.1]
      exact (List.getElem?_eq_some_iff.mp hx).1
    have hos := List.getElem?_eq_getElem hj
    generalize A0[j] = os at hos
    obtain ⟨b1, zs, rfl, e1, hzs⟩ := hxs.2 j os x hos hx
    have hmem := List.mem_of_getElem? hos
    refine ⟨_, rfl, b1, rfl, ⟨_, sqt (s1 _ _ e1)⟩, for_tup (K := K) (a := b1) (xs := zs) (fun (i : Nat) (σ : L2.St) (H' : Hp) => ∃ (y2 : Option V), σ = [some (.ref b0), some (.ref b1), y2] ∧ Same H H' ∧ ∀ o ∈ os.take i, okO A0.length o = true) ?_ ?_ ?_ ?_⟩
    · exact ⟨y2, rfl, s1, fun o h => by rw [List.take_zero] at h; cases h⟩
    · rintro i σ H' _ ⟨y2, rfl, s2, _⟩
      exact sqt (s2 _ _ e1)
    · rintro i x σ H2 hx2 ⟨y2, rfl, s2, hok2⟩
      have hi : i < os.length := by
        rw [← hzs.1]
        exact (List.getElem?_eq_some_iff.mp hx2).1
      have ho := List.getElem?_eq_getElem hi
      generalize os[i] = o at ho
      obtain ⟨b2, rfl, e2⟩ := hzs.2 i o x ho hx2
      have hmo := List.mem_of_getElem? ho
      have e2' := s2 _ _ e2
      refine ⟨_, rfl, Nat.zero_le _, fun te hte => ?_⟩
      have s3 := same_new hte (.tup [])
      refine ⟨.tuple (o.map PyData.int), .tuple [], .tup (sqt (s3 _ _ e2')) (dp_ints o), .tup (sqt upd_same) .nil, shaped_tup o, rfl, _, rfl, ?_⟩
      have s23 := s2.trans s3
      generalize upd H2 te (.tup []) = H3 at s3 s23 ⊢
      cases o with
      | nil =>
        refine ifT rfl ?_
        exact qE (bad os hmem [] hmo rfl) _ s23
      | cons a r =>
        refine ifF rfl ?_
        refine ⟨_, rfl, _, rfl, _, rfl, b0, _, rfl, .inr (sqt (s23 _ _ e0)), b2, a :: r, -1, _, rfl, s3 _ _ e2', _, rfl, ?_⟩
        have hl : ((xs.length : Nat) : Int) = (A0.length : Int) := by rw [hxs.1]
        cases hb : ascB (-1) ((xs.length : Nat) : Int) (a :: r) with
        | false =>
          refine iteT ?_
          refine qE (bad os hmem _ hmo ?_) _ s23
          unfold okO
          rw [← hl, hb, Bool.and_false]
        | true =>
          refine iteF ?_
          refine ⟨_, rfl, s23, fun o' ho' => ?_⟩
          rw [List.take_add_one, ho] at ho'
          rcases List.mem_append.mp ho' with ho' | ho'
          · exact hok2 o' ho'
          · have : o' = a :: r := by simpa using ho'
            rw [this]
            unfold okO
            rw [← hl, hb]
            rfl
    · rintro σ H2 ⟨y2, rfl, s2, hok2⟩
      refine ⟨_, _, rfl, s2, fun os' hos' o ho => ?_⟩
      rw [List.take_add_one, hos] at hos'
      rcases List.mem_append.mp hos' with hos' | hos'
      · exact hok os' hos' o ho
      · have e : os' = os := by simpa using hos'
        rw [e] at ho
        rw [hzs.1, List.take_length] at hok2
        exact hok2 o ho
  · rintro σ H1 ⟨y1, y2, rfl, s1, hok⟩
    rw [hxs.1, List.take_length] at hok
    exact q (List.all_eq_true.mpr fun os hos => List.all_eq_true.mpr fun o ho => hok os hos o ho) _ s1
end
end NL

namespace NL
open PySem PySem.Spec PyProof.Rows L2 L2H HotX
def theBs : List Bool := [true, false, false, false, false, false, false, false, false, false]
section
variable {P : Program} {w : World} {K : PySem.W.Frag} {mg : Str → Option Value} {base : Heap}
/-! ### _law_class -/
def spClass (D : Addr) : SpE := fun a cls d vs H Q _ => vs = [.ref a] ∧ cls = .ref D ∧ d = none ∧ ∀ p H', Same H H' → H' p = some (.lst (theBs.map V.bl)) → Q (.ref p) H'
theorem ok_law_class (T : Txt K mg) (EX : Exs K mg) : FnE P w K mg base CX0 1 T.a_law_class T.d_law_class P_law_class (spClass EX.c_InvalidArena) := by
  refine okE T.F_law_class sc_law_class (fun a cls d vs H Q E h => ?_) (fun cdv A outer s H vs Q E p cls d hot hz0 hr h => ?_)
  · obtain ⟨rfl, _⟩ := h
    rfl
  obtain ⟨rfl, rfl, rfl, q⟩ := h
  have hf : ∃ vs, p.2.data = .fields vs := by
    obtain ⟨_, vs, e, _⟩ := hot
    exact ⟨vs, e⟩
  have hz : Zc (.ref EX.c_InvalidArena) none p.2 := hz0
  have hEC : ExcC (cxH CX0 P w K mg base N_law_class "_law_class" (defScope s_law_class) T.a_law_class cdv A outer s H E p).K EX.c_InvalidArena := EX.ec
  have hpin : p ∈ (cxH CX0 P w K mg base N_law_class "_law_class" (defScope s_law_class) T.a_law_class cdv A outer s H E p).pn := List.mem_cons_self
  have no : ∀ {C : Addr}, PySem.W.subIn K (.ref EX.c_InvalidArena) (.ref C) = some false → (false = false → EX.c_InvalidArena ≠ C) := fun h _ => self_ne EX.s_InvalidArena h
  refine ⟨_, (pss_cons (ps_set (i := 1) sc_law_class.nd rfl (Or.inl rfl) (pe_lst (pa_cons (pe_callB (call_isP hEC hpin hz hf) (by rfl) T.z_isinstance (by decide +kernel) (pa_cons (pv 0) (pa_cons (pe_glob (v := .ref EX.c_InvalidArena) rfl EX.g_InvalidArena rfl) pa_nil))) (pa_cons (pe_callB (call_isP hEC hpin hz hf) (by rfl) T.z_isinstance (by decide +kernel) (pa_cons (pv 0) (pa_cons (pe_glob (v := .ref EX.c_InvalidGoal) rfl EX.g_InvalidGoal rfl) pa_nil))) (pa_cons (pe_callB (call_isP hEC hpin hz hf) (by rfl) T.z_isinstance (by decide +kernel) (pa_cons (pv 0) (pa_cons (pe_glob (v := .ref EX.c_InvalidPlant) rfl EX.g_InvalidPlant rfl) pa_nil))) pa_nil)))))
    (pss_cons (ps_set (i := 1) sc_law_class.nd rfl (Or.inl rfl) (pe_op op_cat (pv 1) (pe_lst (pa_cons (pe_callB (call_isP hEC hpin hz hf) (by rfl) T.z_isinstance (by decide +kernel) (pa_cons (pv 0) (pa_cons (pe_glob (v := .ref EX.c_InvalidExpression) rfl EX.g_InvalidExpression rfl) pa_nil))) (pa_cons (pe_callB (call_isP hEC hpin hz hf) (by rfl) T.z_isinstance (by decide +kernel) (pa_cons (pv 0) (pa_cons (pe_glob (v := .ref EX.c_BadText) rfl EX.g_BadText rfl) pa_nil))) (pa_cons (pe_callB (call_isP hEC hpin hz hf) (by rfl) T.z_isinstance (by decide +kernel) (pa_cons (pv 0) (pa_cons (pe_glob (v := .ref EX.c_NoPosition) rfl EX.g_NoPosition rfl) pa_nil))) pa_nil))))))
    (pss_one (ps_ret (pe_op op_cat (pv 1) (pe_lst (pa_cons (pe_callB (call_isP hEC hpin hz hf) (by rfl) T.z_isinstance (by decide +kernel) (pa_cons (pv 0) (pa_cons (pe_glob (v := .ref EX.c_Held) rfl EX.g_Held rfl) pa_nil))) (pa_cons (pe_callB (call_isP hEC hpin hz hf) (by rfl) T.z_isinstance (by decide +kernel) (pa_cons (pv 0) (pa_cons (pe_glob (v := .ref EX.c_NotHeld) rfl EX.g_NotHeld rfl) pa_nil))) (pa_cons (pe_callB (call_isP hEC hpin hz hf) (by rfl) T.z_isinstance (by decide +kernel) (pa_cons (pv 0) (pa_cons (pe_glob (v := .ref EX.c_BadReply) rfl EX.g_BadReply rfl) pa_nil))) (pa_cons (pe_callB (call_isP hEC hpin hz hf) (by rfl) T.z_isinstance (by decide +kernel) (pa_cons (pv 0) (pa_cons (pe_glob (v := .ref EX.c_Lost) rfl EX.g_Lost rfl) pa_nil))) pa_nil)))))))))), ?_⟩
  refine ⟨_, rfl, _, .ref EX.c_InvalidArena, true, rfl, (fun u r => r), kit_ref (fun h => nomatch h) EX.i_InvalidArena EX.t_InvalidArena EX.s_InvalidArena, ?_⟩
  refine ⟨_, rfl, _, .ref EX.c_InvalidGoal, false, rfl, (fun u r => r), kit_ref (no EX.s_InvalidGoal) EX.i_InvalidGoal EX.t_InvalidGoal EX.s_InvalidGoal, ?_⟩
  refine ⟨_, rfl, _, .ref EX.c_InvalidPlant, false, rfl, (fun u r => r), kit_ref (no EX.s_InvalidPlant) EX.i_InvalidPlant EX.t_InvalidPlant EX.s_InvalidPlant, ?_⟩
  refine ⟨Nat.le_of_ble_eq_true rfl, fun p1 h1 => ?_⟩
  have s1 := fun o => same_new h1 o
  refine ⟨_, rfl, ?_⟩
  refine ⟨_, rfl, _, .ref EX.c_InvalidExpression, false, rfl, (fun u r => r), kit_ref (no EX.s_InvalidExpression) EX.i_InvalidExpression EX.t_InvalidExpression EX.s_InvalidExpression, ?_⟩
  refine ⟨_, rfl, _, .ref EX.c_BadText, false, rfl, (fun u r => r), kit_ref (no EX.s_BadText) EX.i_BadText EX.t_BadText EX.s_BadText, ?_⟩
  refine ⟨_, rfl, _, .ref EX.c_NoPosition, false, rfl, (fun u r => r), kit_ref (no EX.s_NoPosition) EX.i_NoPosition EX.t_NoPosition EX.s_NoPosition, ?_⟩
  refine ⟨Nat.le_of_ble_eq_true rfl, fun p2 h2 => ?_⟩
  have s2 := fun o => (s1 _).trans (same_new h2 o)
  refine ⟨p1, p2, _, _, rfl, rfl, same_new h2 _ _ _ upd_same, upd_same, Nat.le_of_ble_eq_true rfl, fun p3 h3 => ?_⟩
  have s3 := fun o => (s2 _).trans (same_new h3 o)
  refine ⟨_, rfl, ?_⟩
  refine ⟨_, rfl, _, .ref EX.c_Held, false, rfl, (fun u r => r), kit_ref (no EX.s_Held) EX.i_Held EX.t_Held EX.s_Held, ?_⟩
  refine ⟨_, rfl, _, .ref EX.c_NotHeld, false, rfl, (fun u r => r), kit_ref (no EX.s_NotHeld) EX.i_NotHeld EX.t_NotHeld EX.s_NotHeld, ?_⟩
  refine ⟨_, rfl, _, .ref EX.c_BadReply, false, rfl, (fun u r => r), kit_ref (no EX.s_BadReply) EX.i_BadReply EX.t_BadReply EX.s_BadReply, ?_⟩
  refine ⟨_, rfl, _, .ref EX.c_Lost, false, rfl, (fun u r => r), kit_ref (no EX.s_Lost) EX.i_Lost EX.t_Lost EX.s_Lost, ?_⟩
  refine ⟨Nat.le_of_ble_eq_true rfl, fun p4 h4 => ?_⟩
  have s4 := fun o => (s3 _).trans (same_new h4 o)
  refine ⟨p3, p4, _, _, rfl, rfl, same_new h4 _ _ _ upd_same, upd_same, Nat.le_of_ble_eq_true rfl, fun p5 h5 => ?_⟩
  exact q p5 _ ((s4 _).trans (same_new h5 _)) upd_same
/-! ### _law_only -/
def onlyB (n : Int) (j : Nat) : List Bool := (List.range j).map fun k : Nat => decide (V.int (0 + (k : Int)) = V.int n)
def spOnly : Sp := fun vs H Q _ => ∃ n : Int, vs = [.int n] ∧ ∀ p H', Same H H' → H' p = some (.lst ((onlyB n 10).map V.bl)) → Q (.ref p) H'
theorem ok_law_only (T : Txt K mg) : FnOk P w K mg base CX0 1 T.a_law_only T.d_law_only P_law_only spOnly := by
  refine T.F_law_only.ok sc_law_only (fun vs H Q E h => ?_) (fun cdv A outer s H vs Q E hr h => ?_)
  · obtain ⟨n, rfl, _⟩ := h
    rfl
  obtain ⟨n, rfl, q⟩ := h
  refine ⟨_, (pss_one (ps_ret (pe_lc (own := [("k", 1)]) (g := (gName 1)) (tt := tYes) rfl sc_law_only.nd (pi_range1 (by rfl) T.z_range (pa_cons pe_int pa_nil)) (blkOk_by (N := N_law_only) (sc := defScope s_law_only) (by decide +kernel)) (fun _ _ _ _ _ => (pg_name (i := 1) sc_law_only.nd rfl (Or.inl rfl))) (fun _ _ _ _ _ => pts_nil) (fun _ _ _ _ _ => (pe_cmpR op_eq (pv 1) (pv 0) (nomark _)))))), ?_⟩
  refine ⟨10, rfl, by decide, by decide, fun D hD => ?_⟩
  refine lc_range (lo := 0) (n := 10) (fun (j : Nat) (H' : Hp) => Same H H' ∧ H' D = some (.lst ((onlyB n j).map V.bl))) ?_ ?_ ?_
  · exact ⟨same_new hD _, upd_same⟩
  · rintro j H' hj ⟨s1, e1⟩
    refine ⟨rfl, yes_if ?_⟩
    refine ⟨_, rfl, _, rfl, rfl, _, e1, ?_, same_put s1 hD, ?_⟩
    · rw [List.length_map]
      unfold onlyB
      rw [List.length_map, List.length_range]
      exact big' (by omega)
    · rw [upd_same]
      unfold onlyB
      rw [List.range_succ, List.map_append, List.map_append]
      rfl
  · rintro H' ⟨s1, e1⟩
    exact q D H' s1 e1
theorem only_at : onlyB 0 10 = theBs := by decide
/-! ### two lists of bools -/
theorem dp_bls {K : PySem.W.Frag} {H : Hp} : ∀ l : List Bool, DpAll K H (l.map V.bl) (l.map PyData.bool)
  | [] => .nil
  | a :: r => .cons (.bl a) (dp_bls r)
theorem ne_bls {K : PySem.W.Frag} {H : Hp} {p q : Addr} {Q : VK} (hp : H p = some (.lst (theBs.map V.bl))) (hq : H q = some (.lst (theBs.map V.bl))) (h : Q (.bl false) H) : rNeD K (.ref p) (.ref q) H Q := by
  refine ⟨_, _, .lst (sqd hp) (dp_bls theBs), .lst (sqd hq) (dp_bls theBs), by decide +kernel, by decide +kernel, ?_⟩
  rw [SeqAt.eqv_refl _ (by decide +kernel)]
  exact h
/-! ### _law_checked -/
def spChecked : Sp := fun vs H Q _ => ∃ (v : V) (A : Ar), vs = [v] ∧ ArIn H A v ∧ (okA A = true → ∀ H', Same H H' → Q (.bl true) H') ∧ (okA A = false → ∀ p H', Same H H' → H' p = some (.lst (theBs.map V.bl)) → Q (.ref p) H')
theorem ok_law_checked (T : Txt K mg) (EX : Exs K mg) : FnOk P w K mg base CX0 4 T.a_law_checked T.d_law_checked P_law_checked spChecked := by
  have Gcheck_arena := ok_check_arena (P := P) (w := w) (base := base) T EX
  have G_law_class := ok_law_class (P := P) (w := w) (base := base) T EX
  refine T.F_law_checked.ok sc_law_checked (fun vs H Q E h => ?_) (fun cdv A outer s H vs Q E hr h => ?_)
  · obtain ⟨v, A, rfl, _⟩ := h
    rfl
  obtain ⟨v, A0, rfl, hA, q, qE⟩ := h
  refine ⟨_, (pss_cons (L2N.ps_try_as (X := (cxOf CX0 P w K mg base N_law_checked "_law_checked" (defScope s_law_checked) T.a_law_checked cdv A outer s H E).nox) (i := 2) rfl rfl sc_law_checked.nd rfl rfl ⟨rfl, by decide, .inl EX.g_ControlError⟩ takesN0 (fun W pn xe tk po => (pss_one (ps_set (i := 1) sc_law_checked.nd rfl (Or.inl rfl) (pe_callS Gcheck_arena (hr.mono (by omega)) (by rfl) T.mcheck_arena T.Fcheck_arena.kp T.bcheck_arena (fun σ => L2N.passAt tk σ) (pa_cons (pv 0) pa_nil))))) (fun a oe cls d pn hz hf => by exact (pss_cons (ps_if (pt_not (pt_val (pe_callB (call_isQ (K := K) rfl EX.ec List.mem_cons_self hz hf) (by rfl) T.z_isinstance (by decide +kernel) (pa_cons (pv 2) (pa_cons (pe_bltn (v := .ty "ValueError") (u := .type "ValueError") (by rfl) T.z_ValueError (by decide +kernel) rfl) pa_nil)))))
    (pss_one (ps_ret (pe_lst pa_nil)))
    pss_nil)
    (pss_one (ps_ret (by exact pe_callE2 (X := (cxOf CX0 P w K mg base N_law_checked "_law_checked" (defScope s_law_checked) T.a_law_checked cdv A outer s H E).nox.suite a ((a, oe) :: pn)) (a := a) (oe := oe) (cls := cls) (d := d) G_law_class (roomH_mark (j := 1) hr (by decide)) (by exact zn_hot2 hz hf rfl) (by exact List.mem_cons_self) hz.zc (by rfl) T.m_law_class T.F_law_class.kp T.b_law_class (E := fun _ _ _ _ => False) passE0 (pa_cons (pv 2) pa_nil)))))))
    (pss_one (ps_ret (pe_cmpR op_isN (pv 1) pe_non (nomark _))))), ?_⟩
  have ex := exm_ref' (cls := .ref EX.c_InvalidArena) EX.bC EX.i_ControlError EX.t_ControlError EX.s_ControlError
  refine ⟨_, rfl, v, A0, rfl, hA, fun hv H2 s2 => ?_, fun hv H2 s2 => ?_⟩
  · exact ⟨_, rfl, rfl, boolE (decide_eq_true rfl) (q hv H2 s2)⟩
  · refine ⟨true, ex, fun _ a ha => ?_, fun h => nomatch h⟩
    refine ⟨_, rfl, rfl, rfl, .ty "ValueError", .type "ValueError", true, rfl, (fun u r => r), kit_val EX.sV, true, rfl, iteF ?_⟩
    exact ⟨_, rfl, rfl, rfl, rfl, fun p H3 s3 e3 => qE hv p H3 (s2.trans s3) e3⟩
end
end NL

namespace NL
open PySem PySem.Spec PyProof.Rows L2
theorem newH {H : Hp} {p : Addr} (hp : H p = none) (o : HO) : ∃ H', upd H p o = H' ∧ Same H H' ∧ H' p = some o := ⟨_, rfl, same_new hp _, upd_same⟩
theorem catA_of {K : PySem.W.Frag} {a b : Addr} {xs ys : List V} {H : Hp} {Q : VK} (ha : H a = some (.tup xs)) (hb : H b = some (.tup ys)) (hl : xs.length + ys.length ≤ 1000) (q : ∀ p H', Same H H' → H' p = some (.tup (xs ++ ys)) → Q (.ref p) H') : rCatA K (.ref a) (.ref b) H Q := by
  refine ⟨a, b, xs, ys, rfl, rfl, sqt ha, sqt hb, big (by omega), fun h => ?_, fun _ h => ?_, fun _ _ p hp => ?_⟩
  · exact q b H (Same.refl H) (by rw [h, List.nil_append]; exact hb)
  · exact q a H (Same.refl H) (by rw [h, List.append_nil]; exact ha)
  · exact q p _ (same_new hp _) upd_same
theorem rg_ints (a b : Int) : rgV a b = ((List.range (b - a).toNat).map fun i : Nat => a + (i : Int)).map V.int := by
  unfold rgV
  rw [List.map_map]
  rfl
theorem rg_good {a n : Int} (h0 : -1 ≤ a) (h1 : a ≤ 0) (hn : 0 < n) (hm : n ≤ 46) : OptG n ((List.range (n - a).toNat).map fun i : Nat => a + (i : Int)) := by
  refine ⟨fun e => ?_, ?_, fun s hs => ?_, ?_⟩
  · have h := congrArg List.length e
    rw [List.length_map, List.length_range, List.length_nil] at h
    omega
  · rw [List.length_map, List.length_range]
    omega
  · obtain ⟨i, hi, rfl⟩ := List.mem_map.mp hs
    have := List.mem_range.mp hi
    omega
  · rw [List.pairwise_map]
    exact List.pairwise_lt_range.imp fun {a b} h => by omega
section
variable {P : Program} {w : World} {K : PySem.W.Frag} {mg : Str → Option Value} {base : Heap}
/-! ### _law_option -/
def spOption : Sp := fun vs H Q _ => ∃ (d : Addr) (n k sh : Int), vs = [.ref d, .int n, .int k, .int sh] ∧ Dr H d ∧ 0 ≤ k ∧ k < n ∧ n ≤ 45 ∧ ∀ p o H', Go d H H' → H p = none → H' p = some (.tup (o.map V.int)) → OptG n o → Q (.ref p) H'
theorem ok_law_option (T : Txt K mg) : FnOk P w K mg base CX0 2 T.a_law_option T.d_law_option P_law_option spOption := by
  have G_law_take := ok_law_take (P := P) (w := w) (base := base) T
  refine T.F_law_option.ok sc_law_option (fun vs H Q E h => ?_) (fun cdv A outer s H vs Q E hr h => ?_)
  · obtain ⟨d, n, k, sh, rfl, _⟩ := h
    rfl
  obtain ⟨d, n, k, sh, rfl, hD, k0, k1, n45, q⟩ := h
  have hn0 : 0 < n := by omega
  refine ⟨_, (pss_cons (ps_set (i := 4) sc_law_option.nd rfl (Or.inl rfl) (pe_lst pa_nil))
    (pss_cons (ps_for  PassesOwn.never rfl (pi_range1 (by rfl) T.z_range (pa_cons (pe_op op_add pe_int (pe_ix ix_list (pe_lst (pa_cons pe_int (pa_cons pe_int (pa_cons pe_int (pa_cons pe_int (pa_cons pe_int (pa_cons pe_int pa_nil))))))) (pe_call G_law_take (hr.mono (by omega)) (by rfl) T.m_law_take T.F_law_take.kp T.b_law_take .nil pass0 (pa_cons (pv 0) (pa_cons pe_int pa_nil))) (fun _ _ => rfl))) pa_nil)) (pg_name (i := 5) sc_law_option.nd rfl (Or.inl rfl))
    (pss_cons (ps_set (i := 6) sc_law_option.nd rfl (Or.inl rfl) (pe_call G_law_take (hr.mono (by omega)) (by rfl) T.m_law_take T.F_law_take.kp T.b_law_take .nil pass0 (pa_cons (pv 0) (pa_cons (pv 1) pa_nil))))
    (C8.pss_cut (ps_if (pt_cmpR op_eq (pv 3) pe_int (nomark _))
    (pss_one (ps_set (i := 6) sc_law_option.nd rfl (Or.inl rfl) (pe_op op_mod (pe_callTy call_int1 (by rfl) T.z_int (by decide +kernel) (pa_cons (pe_op op_add (pe_op op_add (pv 2) pe_int) (pe_op op_fdiv (pv 6) pe_int)) pa_nil)) (pv 1))))
    pss_nil)
    (C8.pss_cut (ps_if (pt_cmpR op_eq (pv 3) pe_int (nomark _))
    (pss_one (ps_set (i := 6) sc_law_option.nd rfl (Or.inl rfl) (pe_callB (call_max2 rfl) (by rfl) T.z_max (by decide +kernel) (pa_cons pe_int (pa_cons (pe_op op_sub (pv 2) (pe_op op_mod (pe_callTy call_int1 (by rfl) T.z_int (by decide +kernel) (pa_cons (pv 6) pa_nil)) pe_int)) pa_nil)))))
    pss_nil)
    (C8.pss_cut (ps_if (PW.pt (pw_and (pt_cmpR op_ne (pv 3) pe_int (nomark _)) (pw_and1 (pt_cmpR op_eq (pe_call G_law_take (hr.mono (by omega)) (by rfl) T.m_law_take T.F_law_take.kp T.b_law_take .nil pass0 (pa_cons (pv 0) (pa_cons pe_int pa_nil))) pe_int (nomark _)))))
    (pss_one (ps_set (i := 6) sc_law_option.nd rfl (Or.inl rfl) (pe_un un_neg pe_int)))
    pss_nil)
    (pss_one (ps_if (pt_cmpR op_notIn_seq (pv 6) (pv 4) (by rfl))
    (pss_one (ps_expr (pe_bm PySem.F.plainAttrs_list PySem.F.slot_list_append PySem.F.type_list_append mt_append (pv 4) (pa_cons (pv 6) pa_nil))))
    pss_nil)))))))
    (pss_one (ps_ret (pe_callTy call_tuple_of (by rfl) T.z_tuple (by decide +kernel) (pa_cons (pe_callB (cr_sorted) (by rfl) T.z_sorted (by decide +kernel) (pa_cons (pv 4) pa_nil)) pa_nil)))))), ?_⟩
  refine ⟨Nat.zero_le _, fun fl hfl => ?_⟩
  have nfl := new_ne hD hfl
  obtain ⟨H1, e1, s1, c1⟩ := newH hfl (.lst [])
  rw [e1]
  refine ⟨Nat.le_of_ble_eq_true rfl, fun l5 hl5 => ?_⟩
  obtain ⟨H2, e2, s2, c2⟩ := newH hl5 (.lst [.int 0, .int 0, .int 1, .int 1, .int 2, .int 3])
  rw [e2]
  have ga := Go.same hD s1
  have gb := ga.trans (.same ga.dr s2)
  refine ⟨_, rfl, d, 6, rfl, gb.dr, by decide, fun u H3 g3 u0 u1 => ?_⟩
  obtain ⟨mf, hmf, hmfm⟩ := atI_map (f := V.int) (xs := ([0, 0, 1, 1, 2, 3] : List Int)) u0 u1
  have hmf3 : 0 ≤ mf ∧ mf ≤ 3 := by
    simp only [List.mem_cons, List.not_mem_nil, or_false] at hmfm
    omega
  refine ⟨l5, _, _, _, rfl, rfl, sqd (g3.fr l5 _ (new_ne ga.dr hl5) c2), hmf, _, _, rfl, rfl, 1 + mf, rfl, by omega, by omega, ?_⟩
  have gc := gb.trans g3
  have ef := g3.fr fl _ nfl (s2 _ _ c1)
  refine for_range (lo := 0) (n := (1 + mf).toNat) (fun (i : Nat) (σ : L2.St) (H' : Hp) => ∃ (fs : List Int) (y5 y6 : Option V), σ = [some (.ref d), some (.int n), some (.int k), some (.int sh), some (.ref fl), y5, y6] ∧ Go d H H' ∧ H' fl = some (.lst (fs.map V.int)) ∧ fs.Nodup ∧ fs.length ≤ i ∧ (∀ s ∈ fs, -1 ≤ s ∧ s < n) ∧ (0 < i → fs ≠ [])) ?_ ?_ ?_
  · exact ⟨[], none, none, rfl, gc, ef, List.nodup_nil, Nat.zero_le _, fun s h => (nomatch h), fun h => absurd h (by omega)⟩
  · rintro t σ H4 ht ⟨fs, y5, y6, rfl, g4, e4, hnd, hlen, hmem, hne⟩
    generalize hk3 : (0 : Int) + (t : Int) = k3
    refine ⟨_, rfl, _, rfl, d, n, rfl, g4.dr, hn0, fun x H5 g5 x0 x1 => ?_⟩
    have e5 := g5.fr fl _ nfl e4
    have g45 := g4.trans g5
    refine ⟨fun σ H' => ∃ x : Int, σ = [some (.ref d), some (.int n), some (.int k), some (.int sh), some (.ref fl), some (.int k3), some (.int x)] ∧ H' = H5 ∧ -1 ≤ x ∧ x < n, ?_, ?_⟩
    · refine ⟨_, rfl, rfl, _, rfl, ?_⟩
      refine ite2 (fun z => ?_) (fun z => ⟨x, rfl, rfl, by omega, x1⟩)
      refine ⟨_, rfl, _, _, rfl, rfl, _, rfl, _, _, rfl, rfl, ⟨by decide, by decide⟩, _, _, rfl, rfl, .inl ⟨_, rfl, _, rfl, _, _, rfl, rfl, hn0, ?_⟩⟩
      exact ⟨_, rfl, rfl, by have := Int.emod_nonneg (k + 1 + x / 3) (show n ≠ 0 by omega); omega, Int.emod_lt_of_pos _ hn0⟩
    rintro σ H6 ⟨x, rfl, rfl, x0, x1⟩
    refine ⟨fun σ H' => ∃ x : Int, σ = [some (.ref d), some (.int n), some (.int k), some (.int sh), some (.ref fl), some (.int k3), some (.int x)] ∧ H' = H6 ∧ -1 ≤ x ∧ x < n, ?_, ?_⟩
    · refine ⟨_, rfl, rfl, _, rfl, ?_⟩
      refine ite2 (fun z => ?_) (fun z => ⟨x, rfl, rfl, x0, x1⟩)
      refine ⟨_, rfl, _, rfl, .inl ⟨_, rfl, _, _, rfl, rfl, (by show (0 : Int) < 3; decide), _, _, rfl, rfl, _, _, rfl, ?_⟩⟩
      have m0 := Int.emod_nonneg x (show (3 : Int) ≠ 0 by decide)
      refine ⟨_, rfl, rfl, ?_, ?_⟩
      · show (-1 : Int) ≤ (if k - x % 3 > 0 then k - x % 3 else 0)
        split <;> omega
      · show (if k - x % 3 > 0 then k - x % 3 else 0) < n
        split <;> omega
    rintro σ H7 ⟨x, rfl, rfl, x0, x1⟩
    refine ⟨fun σ H' => ∃ x : Int, σ = [some (.ref d), some (.int n), some (.int k), some (.int sh), some (.ref fl), some (.int k3), some (.int x)] ∧ Go d H7 H' ∧ -1 ≤ x ∧ x < n, ?_, ?_⟩
    · refine ⟨_, rfl, rfl, _, rfl, ?_⟩
      refine ite2 (fun z => ?_) (fun z => iteF ⟨x, rfl, .refl g45.dr, x0, x1⟩)
      refine ⟨_, rfl, d, 14, rfl, g45.dr, by decide, fun y H8 g8 _ _ => ⟨rfl, _, rfl, ?_⟩⟩
      refine ite2 (fun z => ⟨_, rfl, -1, rfl, g8, by omega, by omega⟩) (fun z => ⟨x, rfl, g8, x0, x1⟩)
    rintro σ H8 ⟨x, rfl, g8, x0, x1⟩
    have e8 := g8.fr fl _ nfl e5
    have g48 := g45.trans g8
    refine ⟨_, rfl, _, rfl, fl, _, rfl, .inl (sqd e8), rfl, flat_ints' fs, _, rfl, ?_⟩
    by_cases hin : x ∈ fs
    · refine ifF (by rw [notIn_int, decide_eq_true hin] <;> rfl) ?_
      exact ⟨fs, _, _, rfl, g48, e8, hnd, by omega, hmem, fun _ e => by rw [e] at hin; cases hin⟩
    · refine ifT (by rw [notIn_int, decide_eq_false hin] <;> rfl) ?_
      refine ⟨_, rfl, .inl ⟨rfl, _, sqd e8⟩, _, rfl, fl, _, _, rfl, rfl, e8, big' (by rw [List.length_map]; omega), ?_⟩
      refine ⟨fs ++ [x], _, _, rfl, g48.put2 hfl nfl, by rw [upd_same, List.map_append]; rfl, ?_, ?_, ?_, fun _ => by simp⟩
      · exact List.nodup_append.mpr ⟨hnd, by simp, fun a ha b hb e => hin (by rw [← List.mem_singleton.mp hb, ← e]; exact ha)⟩
      · rw [List.length_append]
        exact Nat.add_le_add_right hlen 1
      · intro s hs
        rcases List.mem_append.mp hs with hs | hs
        · exact hmem s hs
        · rw [List.mem_singleton.mp hs]
          exact ⟨x0, x1⟩
  · rintro σ H4 ⟨fs, y5, y6, rfl, g4, e4, hnd, hlen, hmem, hne⟩
    have hfl64 : fs.length ≤ 4 := by omega
    refine ⟨_, rfl, fl, fs, rfl, sqd e4, by omega, fun ns q1 hperm hpw hq1 => ?_⟩
    obtain ⟨Hd, ed, sd, kd⟩ := newH hq1 (.lst (ns.map V.int))
    rw [ed]
    refine ⟨q1, _, rfl, .inl ⟨sqd kd, fun t2 ht2 => ?_⟩⟩
    have gd := g4.trans (.same g4.dr sd)
    refine q t2 ns _ (gd.trans (Go.new gd.dr ht2)) (gd.free ht2) upd_same ⟨fun e => ?_, by have := hperm.length_eq; omega, fun s hs => hmem s (hperm.mem_iff.mp hs), asc_of hperm hnd hpw⟩
    rw [e] at hperm
    exact hne (by omega) hperm.symm.eq_nil
/-! ### _law_arena -/
def spArena : Sp := fun vs H Q _ => ∃ (d : Addr) (most : Int), vs = [.ref d, .int most] ∧ Dr H d ∧ 0 ≤ most ∧ most ≤ 45 ∧ ∀ v A H', Go d H H' → ArIn H' A v → ArG A → Q v H'
theorem ok_law_arena (T : Txt K mg) : FnOk P w K mg base CX0 3 T.a_law_arena T.d_law_arena P_law_arena spArena := by
  have G_law_take := ok_law_take (P := P) (w := w) (base := base) T
  have G_law_option := ok_law_option (P := P) (w := w) (base := base) T
  refine T.F_law_arena.ok sc_law_arena (fun vs H Q E h => ?_) (fun cdv A outer s H vs Q E hr h => ?_)
  · obtain ⟨d, most, rfl, _⟩ := h
    rfl
  obtain ⟨d, most, rfl, hD, m0, m1, q⟩ := h
  refine ⟨_, (pss_cons (ps_set (i := 2) sc_law_arena.nd rfl (Or.inr rfl) (pe_call G_law_take (hr.mono (by omega)) (by rfl) T.m_law_take T.F_law_take.kp T.b_law_take .nil pass0 (pa_cons (pv 0) (pa_cons (pe_op op_add (pv 1) pe_int) pa_nil))))
    (pss_cons (ps_set (i := 3) sc_law_arena.nd rfl (Or.inr rfl) (pe_call G_law_take (hr.mono (by omega)) (by rfl) T.m_law_take T.F_law_take.kp T.b_law_take .nil pass0 (pa_cons (pv 0) (pa_cons pe_int pa_nil))))
    (pss_cons (ps_set (i := 4) sc_law_arena.nd rfl (Or.inl rfl) (pe_lst pa_nil))
    (pss_cons (ps_for  PassesOwn.never rfl (pi_range1 (by rfl) T.z_range (pa_cons (pv 2) pa_nil)) (pg_name (i := 5) sc_law_arena.nd rfl (Or.inr rfl))
    (pss_cons (ps_set (i := 6) sc_law_arena.nd rfl (Or.inl rfl) (pe_ix ix_list (pe_lst (pa_cons pe_int (pa_cons pe_int (pa_cons pe_int (pa_cons pe_int (pa_cons pe_int (pa_cons pe_int pa_nil))))))) (pe_call G_law_take (hr.mono (by omega)) (by rfl) T.m_law_take T.F_law_take.kp T.b_law_take .nil pass0 (pa_cons (pv 0) (pa_cons pe_int pa_nil))) (fun _ _ => rfl)))
    (C8.pss_cut (ps_if (pt_cmpR op_gt (pv 3) pe_int (nomark _))
    (pss_one (ps_set (i := 6) sc_law_arena.nd rfl (Or.inl rfl) (pe_callB (call_max2 rfl) (by rfl) T.z_max (by decide +kernel) (pa_cons pe_int (pa_cons (pv 6) pa_nil)))))
    pss_nil)
    (pss_one (ps_expr (pe_bm PySem.F.plainAttrs_list PySem.F.slot_list_append PySem.F.type_list_append mt_append (pv 4) (pa_cons (pe_callTy call_tuple_of (by rfl) T.z_tuple (by decide +kernel) (pa_cons (pe_lc (own := [("j", 7)]) (g := (gName 7)) (tt := tYes) rfl sc_law_arena.nd (pi_range1 (by rfl) T.z_range (pa_cons (pv 6) pa_nil)) (blkOk_by (N := N_law_arena) (sc := defScope s_law_arena) (by decide +kernel)) (fun _ _ _ _ _ => (pg_name (i := 7) sc_law_arena.nd rfl (Or.inl rfl))) (fun _ _ _ _ _ => pts_nil) (fun _ _ _ _ _ => (pe_call G_law_option (hr.mono (by omega)) (by rfl) T.m_law_option T.F_law_option.kp T.b_law_option .nil pass0 (pa_cons (pv 0) (pa_cons (pv 2) (pa_cons (pv 5) (pa_cons (pv 3) pa_nil))))))) pa_nil)) pa_nil)))))))
    (C8.pss_cut (ps_if (PW.pt (pw_and (pt_cmpR op_gt (pv 2) pe_int (nomark _)) (pw_and1 (pt_cmpR op_eq (pe_call G_law_take (hr.mono (by omega)) (by rfl) T.m_law_take T.F_law_take.kp T.b_law_take .nil pass0 (pa_cons (pv 0) (pa_cons pe_int pa_nil))) pe_int (nomark _)))))
    (pss_cons (ps_set (i := 8) sc_law_arena.nd rfl (Or.inr rfl) (pe_call G_law_take (hr.mono (by omega)) (by rfl) T.m_law_take T.F_law_take.kp T.b_law_take .nil pass0 (pa_cons (pv 0) (pa_cons (pv 2) pa_nil))))
    (pss_cons (ps_setLc (i := 9) (own := [("j", 7)]) (g := (gName 7)) (tt := tYes) rfl sc_law_arena.nd rfl rfl (sw_true rfl rfl rfl (by decide +kernel)) (pi_range1 (by rfl) T.z_range (pa_cons (pe_op op_add pe_int (pe_call G_law_take (hr.mono (by omega)) (by rfl) T.m_law_take T.F_law_take.kp T.b_law_take .nil pass0 (pa_cons (pv 0) (pa_cons pe_int pa_nil)))) pa_nil)) (blkOk_by (N := N_law_arena) (sc := defScope s_law_arena) (by decide +kernel)) (fun _ _ _ _ _ => (pg_name (i := 7) sc_law_arena.nd rfl (Or.inl rfl))) (fun _ _ _ _ _ => pts_nil) (fun _ _ _ _ _ => (pe_call G_law_option (hr.mono (by omega)) (by rfl) T.m_law_option T.F_law_option.kp T.b_law_option .nil pass0 (pa_cons (pv 0) (pa_cons (pv 2) (pa_cons (pv 8) (pa_cons (pv 3) pa_nil)))))))
    (pss_cons (ps_set (i := 10) sc_law_arena.nd rfl (Or.inl rfl) (pe_tupRg rfl (by rfl) T.z_tuple (prg_2 (by rfl) T.z_range (pe_op op_mul (pe_un un_neg (pe_call G_law_take (hr.mono (by omega)) (by rfl) T.m_law_take T.F_law_take.kp T.b_law_take .nil pass0 (pa_cons (pv 0) (pa_cons pe_int pa_nil)))) (pe_callTy call_int1 (by rfl) T.z_int (by decide +kernel) (pa_cons (pe_cmpR op_ne (pv 3) pe_int (nomark _)) pa_nil))) (pv 2))))
    (pss_one (ps_asg (pe_op op_catA (pe_op op_catA (pe_ix ix_list (pv 4) (pv 8) (fun _ _ => rfl)) (pe_callTy call_tuple_of (by rfl) T.z_tuple (by decide +kernel) (pa_cons (pv 9) pa_nil))) (pe_tup (pa_cons (pv 10) pa_nil))) (pg_sub (pv 4) (pv 8) set_list))))))
    pss_nil)
    (pss_one (ps_ret (pe_callTy call_tuple_of (by rfl) T.z_tuple (by decide +kernel) (pa_cons (pv 4) pa_nil))))))))), ?_⟩
  refine ⟨_, rfl, _, rfl, _, _, rfl, rfl, d, _, rfl, hD, by omega, fun n H1 g1 n0 n1 => ?_⟩
  have n45 : n ≤ 45 := by
    have : n < most + 1 := n1
    omega
  refine ⟨_, rfl, d, 5, rfl, g1.dr, by decide, fun sh H2 g2 _ _ => ?_⟩
  have g12 := g1.trans g2
  refine ⟨Nat.zero_le _, fun p hp => ?_⟩
  have hpd := new_ne g12.dr hp
  have hp0 := g12.free hp
  obtain ⟨H3, e3, s3, k3⟩ := newH hp (.lst [])
  rw [e3]
  have g13 := g12.trans (.same g12.dr s3)
  refine ⟨_, rfl, n, rfl, by omega, by omega, for_range (lo := 0) (n := n.toNat) (fun (j : Nat) (σ : L2.St) (H' : Hp) => ∃ (xs : List V) (A' : Ar) (y5 y6 : Option V), σ = [some (.ref d), some (.int most), some (.int n), some (.int sh), some (.ref p), y5, y6, none, none, none, none] ∧ Go d H H' ∧ H' p = some (.lst xs) ∧ Each (PosIn H') A' xs ∧ A'.length = j ∧ ∀ os ∈ A', os.length ≤ 3 ∧ PosG n os) ?_ ?_ ?_⟩
  · exact ⟨[], [], none, none, rfl, g13, k3, .nil, rfl, fun os h => nomatch h⟩
  · rintro j σ H4 hj ⟨xs, A', y5, y6, rfl, g4, e4, hxs, hA, hG⟩
    have hn0 : 0 < n := by omega
    have hk1 : (0 : Int) + (j : Int) < n := by omega
    have hk0 : (0 : Int) ≤ 0 + (j : Int) := by omega
    generalize hk : (0 : Int) + (j : Int) = k at hk0 hk1 ⊢
    refine ⟨Nat.le_of_ble_eq_true rfl, fun l5 hl5 => ?_⟩
    obtain ⟨H5, e5, s5, k5⟩ := newH hl5 (.lst [.int 0, .int 1, .int 1, .int 2, .int 2, .int 3])
    rw [e5]
    have ga := Go.same g4.dr s5
    refine ⟨_, rfl, d, 6, rfl, ga.dr, by decide, fun u H6 g6 u0 u1 => ?_⟩
    obtain ⟨mf, hmf, hmfm⟩ := atI_map (f := V.int) (xs := ([0, 1, 1, 2, 2, 3] : List Int)) u0 u1
    have hmf3 : 0 ≤ mf ∧ mf ≤ 3 := by
      simp only [List.mem_cons, List.not_mem_nil, or_false] at hmfm
      omega
    refine ⟨l5, _, _, _, rfl, rfl, sqd (g6.fr l5 _ (new_ne g4.dr hl5) k5), hmf, ?_⟩
    have g46 := ga.trans g6
    have e6 := g46.fr p _ hpd e4
    refine ⟨fun σ H' => ∃ m : Int, σ = [some (.ref d), some (.int most), some (.int n), some (.int sh), some (.ref p), some (.int k), some (.int m), none, none, none, none] ∧ H' = H6 ∧ 0 ≤ m ∧ m ≤ 3, ?_, ?_⟩
    · refine ⟨_, rfl, _, _, rfl, rfl, _, rfl, ?_⟩
      refine ite2 (fun z => ?_) (fun z => ⟨mf, rfl, rfl, hmf3.1, hmf3.2⟩)
      refine ⟨_, rfl, _, _, rfl, ?_⟩
      refine ⟨_, rfl, rfl, ?_, ?_⟩
      · show (0 : Int) ≤ (if mf > 1 then mf else 1)
        split <;> omega
      · show (if mf > 1 then mf else 1) ≤ (3 : Int)
        split <;> omega
    rintro σ H7 ⟨m, rfl, rfl, m0', m3⟩
    refine ⟨_, rfl, .inl ⟨rfl, _, sqd e6⟩, _, rfl, m, rfl, by omega, by omega, fun D hD' => ?_⟩
    have nDd := new_ne g46.dr hD'
    have s7 := same_new hD' (.lst [])
    refine lc_range (lo := 0) (n := m.toNat) (fun (i : Nat) (H' : Hp) => ∃ (zs : List V) (os : Pos'), Go d H7 H' ∧ H' D = some (.lst zs) ∧ Each (OptIn H') os zs ∧ os.length = i ∧ ∀ o ∈ os, OptG n o) ?_ ?_ ?_
    · exact ⟨[], [], .same g46.dr s7, upd_same, .nil, rfl, fun o h => nomatch h⟩
    · rintro i H' hi ⟨zs, os, gj, ej, hzs, hos, hoG⟩
      refine ⟨rfl, yes_if ?_⟩
      refine ⟨_, rfl, _, rfl, _, rfl, _, rfl, d, n, k, sh, rfl, gj.dr, hk0, hk1, n45, fun t o H8 g8 ht et og => ?_⟩
      have ej8 := g8.fr D _ nDd ej
      have ntD : t ≠ D := fun e => by
        rw [e, ej] at ht
        cases ht
      refine ⟨zs, ej8, big' (by have := hzs.1; omega), zs ++ [.ref t], os ++ [o], (gj.trans g8).put2 hD' nDd, upd_same, ?_, by rw [List.length_append, hos]; rfl, ?_⟩
      · refine (hzs.mono fun o x => OptIn.tp (tp_put (g8.tp gj.dr) ej8)).snoc ⟨t, rfl, ?_⟩
        rw [upd_ne ntD]
        exact et
      · intro o' ho'
        rcases List.mem_append.mp ho' with ho' | ho'
        · exact hoG o' ho'
        · rw [List.mem_singleton.mp ho']
          exact og
    · rintro H8 ⟨zs, os, gj, ej, hzs, hos, hoG⟩
      refine ⟨D, _, rfl, .inl ⟨sqd ej, fun t ht => ?_⟩⟩
      have st := same_new ht (.tup zs)
      have ejp := gj.fr p _ hpd e6
      have ept := st _ _ ejp
      have hxl := hxs.1
      have ntp : t ≠ p := fun e => by
        rw [e, ejp] at ht
        cases ht
      refine ⟨p, xs, _, rfl, rfl, ept, big' (by omega), ?_⟩
      have gall := (g4.trans g46).trans gj
      have tpx : Tp H4 (upd (upd H8 t (.tup zs)) p (.lst (xs ++ [.ref t]))) := tp_put (((g46.trans gj).tp g4.dr).trans (Tp.same st)) ept
      refine ⟨xs ++ [.ref t], A' ++ [os], _, _, rfl, (gall.trans (.same gall.dr st)).put2 hp0 hpd, upd_same, ?_, by rw [List.length_append, hA]; rfl, ?_⟩
      · refine (hxs.mono fun o x => PosIn.tp tpx).snoc ⟨t, zs, rfl, ?_, hzs.mono fun o x => OptIn.tp (tp_put (Tp.same st) ept)⟩
        rw [upd_ne ntp]
        exact upd_same
      · intro o ho
        rcases List.mem_append.mp ho with ho | ho
        · exact hG o ho
        · rw [List.mem_singleton.mp ho]
          exact ⟨by omega, by omega, hoG⟩
  · rintro σ H4 ⟨xs, A', y5, y6, rfl, g4, e4, hxs, hA, hG⟩
    refine ⟨fun σ H' => ∃ (xs : List V) (A' : Ar) (y5 y6 y8 y9 y10 : Option V), σ = [some (.ref d), some (.int most), some (.int n), some (.int sh), some (.ref p), y5, y6, none, y8, y9, y10] ∧ Go d H H' ∧ H' p = some (.lst xs) ∧ Each (PosIn H') A' xs ∧ A'.length = n.toNat ∧ ∀ os ∈ A', PosG n os, ?_, ?_⟩
    · refine ⟨_, rfl, _, _, rfl, rfl, _, rfl, ?_⟩
      refine ite2 (fun z => ?_) (fun z => iteF ⟨xs, A', _, _, _, _, _, rfl, g4, e4, hxs, hA, fun os h => (hG os h).2⟩)
      have hn0 : 0 < n := of_decide_eq_true z
      refine ⟨_, rfl, d, 8, rfl, g4.dr, by decide, fun u5 H9 g9 _ _ => ⟨rfl, _, rfl, ?_⟩⟩
      have e9 := g9.fr p _ hpd e4
      have hxs9 := hxs.mono fun o x => PosIn.tp (g9.tp g4.dr)
      have gg := g4.trans g9
      refine ite2 (fun z => ?_) (fun z => ⟨xs, A', _, _, _, _, _, rfl, gg, e9, hxs9, hA, fun os h => (hG os h).2⟩)
      refine ⟨_, rfl, _, rfl, d, n, rfl, g9.dr, hn0, fun at_ H10 g10 t0 t1 => ?_⟩
      refine ⟨_, rfl, d, 4, rfl, g10.dr, by decide, fun u H11 g11 u0 u1 => ⟨_, _, rfl, rfl, _, rfl, by omega, by omega, fun D hD' => ?_⟩⟩
      have nDd := new_ne g11.dr hD'
      have s11 := same_new hD' (.lst [])
      have g911 := g10.trans g11
      refine lc_range (lo := 0) (n := (4 + u).toNat) (fun (i : Nat) (H' : Hp) => ∃ (zs : List V) (os : Pos'), Go d H11 H' ∧ H' D = some (.lst zs) ∧ Each (OptIn H') os zs ∧ os.length = i ∧ ∀ o ∈ os, OptG n o) ?_ ?_ ?_
      · exact ⟨[], [], .same g11.dr s11, upd_same, .nil, rfl, fun o h => nomatch h⟩
      · rintro i H' hi ⟨zs, os, gj, ej, hzs, hos, hoG⟩
        refine ⟨rfl, yes_if ?_⟩
        refine ⟨_, rfl, _, rfl, _, rfl, _, rfl, d, n, at_, sh, rfl, gj.dr, t0, t1, n45, fun t o H8 g8 ht et og => ?_⟩
        have ej8 := g8.fr D _ nDd ej
        have ntD : t ≠ D := fun e => by
          rw [e, ej] at ht
          cases ht
        refine ⟨zs, ej8, big' (by have := hzs.1; omega), zs ++ [.ref t], os ++ [o], (gj.trans g8).put2 hD' nDd, upd_same, ?_, by rw [List.length_append, hos]; rfl, ?_⟩
        · refine (hzs.mono fun o x => OptIn.tp (tp_put (g8.tp gj.dr) ej8)).snoc ⟨t, rfl, ?_⟩
          rw [upd_ne ntD]
          exact et
        · intro o' ho'
          rcases List.mem_append.mp ho' with ho' | ho'
          · exact hoG o' ho'
          · rw [List.mem_singleton.mp ho']
            exact og
      · rintro H12 ⟨zs, os, gj, ej, hzs, hos, hoG⟩
        refine ⟨_, rfl, d, 2, rfl, gj.dr, by decide, fun v H13 g13' v0 v1 => ⟨_, rfl, _, rfl, rfl, .inr ⟨_, rfl, _, _, rfl, rfl, .inl ⟨by omega, by omega⟩, _, rfl, _, _, rfl, rfl, ?_⟩⟩⟩
        have low : -1 ≤ -v * (if (!decide (V.int sh = V.int 3)) = true then (1 : Int) else 0) ∧ -v * (if (!decide (V.int sh = V.int 3)) = true then (1 : Int) else 0) ≤ 0 := by
          split <;> omega
        generalize hlo : -v * (if (!decide (V.int sh = V.int 3)) = true then (1 : Int) else 0) = lo at low
        have hgoal : RgOk lo n := ⟨by omega, by omega, by omega, by omega, by omega⟩
        have og1 := rg_good low.1 low.2 hn0 (by omega)
        have er := rg_ints lo n
        generalize (List.range (n - lo).toNat).map (fun i : Nat => lo + (i : Int)) = o1 at og1 er
        refine ⟨hgoal, fun q1 hq1 => ?_⟩
        rw [er]
        obtain ⟨Ha, ea, sa, ka⟩ := newH hq1 (.tup (o1.map V.int))
        rw [ea]
        have gx := gj.trans g13'
        have g9a : Go d H9 Ha := (g911.trans gx).trans (.same gx.dr sa)
        have eap := g9a.fr p _ hpd e9
        have hxa := hxs9.mono fun o x => PosIn.tp (g9a.tp g9.dr)
        obtain ⟨os0, x0, hos0, hat, hin⟩ := hxa.atI t0 (by rw [hA]; omega)
        obtain ⟨b0, zs0, rfl, eb0, hzs0⟩ := hin
        have hG0 := hG os0 (List.mem_of_getElem? hos0)
        have eDa := sa _ _ (g13'.fr D _ nDd ej)
        have hza := hzs.mono fun o x => OptIn.tp ((g13'.tp gj.dr).trans (Tp.same sa))
        refine ⟨_, rfl, _, rfl, p, _, _, _, rfl, rfl, sqd eap, hat, _, rfl, D, _, rfl, .inl ⟨sqd eDa, fun t2 ht2 => ?_⟩⟩
        obtain ⟨He, ee, se, ke⟩ := newH ht2 (.tup zs)
        rw [ee]
        have l0 := hzs0.1
        have l1 := hzs.1
        refine catA_of (se _ _ eb0) ke (by have := hG0.1; omega) fun pc Hf sf ef => ?_
        refine ⟨_, rfl, Nat.le_of_ble_eq_true rfl, fun t3 ht3 => ?_⟩
        obtain ⟨Hg, eg, sg, kg⟩ := newH ht3 (.tup [.ref q1])
        rw [eg]
        refine catA_of (sg _ _ ef) kg (by rw [List.length_append, List.length_singleton]; have := hG0.1; omega) fun ps Hh sh' eh => ?_
        have sea := ((se.trans sf).trans sg).trans sh'
        have ehp := sea _ _ eap
        have nps : ps ≠ p := fun e => by
          rw [e, ehp] at eh
          cases eh
        refine ⟨_, rfl, _, rfl, p, _, _, _, rfl, rfl, ehp, ixN_in t0 (by rw [hxa.1, hA]; omega), ?_⟩
        have tpp : Tp Ha (upd Hh p (.lst (xs.set at_.toNat (.ref ps)))) := tp_put (Tp.same sea) ehp
        have hgg := gg.trans (g9a.trans (.same g9a.dr sea))
        refine ⟨xs.set at_.toNat (.ref ps), A'.set at_.toNat (os0 ++ os ++ [o1]), _, _, _, _, _, rfl, hgg.put2 hp0 hpd, upd_same, ?_, by rw [List.length_set]; exact hA, ?_⟩
        · refine (hxa.mono fun o x => PosIn.tp tpp).set _ ⟨ps, zs0 ++ zs ++ [.ref q1], rfl, ?_, ?_⟩
          · rw [upd_ne nps]
            exact eh
          · exact ((hzs0.app hza).snoc ⟨q1, rfl, ka⟩).mono fun o x => OptIn.tp tpp
        · intro o ho
          rcases List.mem_or_eq_of_mem_set ho with ho | rfl
          · exact (hG o ho).2
          · refine ⟨by rw [List.length_append, List.length_append, List.length_singleton]; have := hG0.1; omega, fun w hw => ?_⟩
            rcases List.mem_append.mp hw with hw | hw
            · rcases List.mem_append.mp hw with hw | hw
              · exact hG0.2.2 w hw
              · exact hoG w hw
            · rw [List.mem_singleton.mp hw]
              exact og1
    rintro σ H8 ⟨xs, A', y5, y6, y8, y9, y10, rfl, g8, e8, hxs, hA, hG⟩
    refine ⟨_, rfl, p, xs, rfl, .inl ⟨sqd e8, fun t ht => ?_⟩⟩
    have st := same_new ht (.tup xs)
    refine q _ A' _ (g8.trans (.same g8.dr st)) ⟨t, xs, rfl, upd_same, hxs.mono fun os x => PosIn.tp (.same st)⟩ ⟨by omega, fun os h => ?_⟩
    rw [show (A'.length : Int) = n by omega]
    exact hG os h
end
end NL

namespace NL
open PySem PySem.Spec PyProof.Rows L2
theorem okO_bad {n : Int} {o : Opt} (h : ascB (-1) n o = true → False) : okO n o = false := by
  unfold okO
  cases e : ascB (-1) n o with
  | true => exact (h e).elim
  | false => exact Bool.and_false _
theorem cut_take {xs : List V} {k : Nat} : cutV xs none (some (k : Int)) = xs.take k := by
  unfold cutV
  rw [HT.sIx_none, show HT.sIx xs.length xs.length (some (k : Int)) = min k xs.length from HT.sIx_nat _ _ _, List.drop_zero, Nat.sub_zero]
  by_cases h : k ≤ xs.length
  · rw [Nat.min_eq_left h]
  · rw [Nat.min_eq_right (by omega), List.take_length, List.take_of_length_le (by omega)]
theorem cut_drop {xs : List V} {k : Nat} : cutV xs (some (k : Int)) none = xs.drop k := by
  unfold cutV
  rw [HT.sIx_none, show HT.sIx xs.length 0 (some (k : Int)) = min k xs.length from HT.sIx_nat _ _ _]
  by_cases h : k ≤ xs.length
  · rw [Nat.min_eq_left h, List.take_of_length_le (by rw [List.length_drop]; exact Nat.le_refl _)]
  · rw [Nat.min_eq_right (by omega), Nat.sub_self, List.take_zero, List.drop_eq_nil_of_le (by omega)]
theorem two_of {ns : List Int} {x y : Int} (hx : x ∈ ns) (hy : y ∈ ns) (h : x ≠ y) : 2 ≤ ns.length := by
  match ns, hx, hy with
  | [], hx, _ => cases hx
  | [a], hx, hy => exact absurd ((List.mem_singleton.mp hx).trans (List.mem_singleton.mp hy).symm) h
  | _ :: _ :: _, _, _ => exact Nat.le_add_left _ _
theorem asc_at {ns : List Int} (h : ns.Pairwise (· < ·)) {k : Nat} {x y : Int} (hx : ns[k]? = some x) (hy : ns[k + 1]? = some y) : x < y := by
  obtain ⟨h1, e1⟩ := List.getElem?_eq_some_iff.mp hx
  obtain ⟨h2, e2⟩ := List.getElem?_eq_some_iff.mp hy
  rw [← e1, ← e2]
  exact List.pairwise_iff_getElem.mp h k (k + 1) h1 h2 (Nat.lt_succ_self k)
section
variable {P : Program} {w : World} {K : PySem.W.Frag} {mg : Str → Option Value} {base : Heap}
/-! ### _law_disorder -/
def spDisorder : Sp := fun vs H Q _ => ∃ (d : Addr) (n : Int), vs = [.ref d, .int n] ∧ Dr H d ∧ 0 < n ∧ n ≤ 46 ∧ ∀ p o H', Go d H H' → H p = none → H' p = some (.tup (o.map V.int)) → okO n o = false → Q (.ref p) H'
theorem ok_law_disorder (T : Txt K mg) : FnOk P w K mg base CX0 2 T.a_law_disorder T.d_law_disorder P_law_disorder spDisorder := by
  have G_law_take := ok_law_take (P := P) (w := w) (base := base) T
  refine T.F_law_disorder.ok sc_law_disorder (fun vs H Q E h => ?_) (fun cdv A outer s H vs Q E hr h => ?_)
  · obtain ⟨d, n, rfl, _⟩ := h
    rfl
  obtain ⟨d, n, rfl, hD, n0, n46, q⟩ := h
  refine ⟨_, (pss_cons (ps_set (i := 2) sc_law_disorder.nd rfl (Or.inl rfl) (pe_callB (cr_sortedSet rfl) (by rfl) T.z_sorted (by decide +kernel) (pa_cons (pe_callTy (cr_setOfI rfl) (by rfl) T.z_set (by decide +kernel) (pa_cons (pe_op op_cat (pe_lst (pa_cons (pe_un un_neg pe_int) pa_nil)) (pe_lc (own := [("k", 3)]) (g := (gName 3)) (tt := tYes) rfl sc_law_disorder.nd (pi_range1 (by rfl) T.z_range (pa_cons pe_int pa_nil)) (blkOk_by (N := N_law_disorder) (sc := defScope s_law_disorder) (by decide +kernel)) (fun _ _ _ _ _ => (pg_name (i := 3) sc_law_disorder.nd rfl (Or.inl rfl))) (fun _ _ _ _ _ => pts_nil) (fun _ _ _ _ _ => (pe_call G_law_take (hr.mono (by omega)) (by rfl) T.m_law_take T.F_law_take.kp T.b_law_take .nil pass0 (pa_cons (pv 0) (pa_cons (pv 1) pa_nil)))))) pa_nil)) pa_nil)))
    (C8.pss_cut (ps_if (pt_cmpR op_eq (pe_call G_law_take (hr.mono (by omega)) (by rfl) T.m_law_take T.F_law_take.kp T.b_law_take .nil pass0 (pa_cons (pv 0) (pa_cons pe_int pa_nil))) pe_int (nomark _))
    (pss_one (ps_set (i := 2) sc_law_disorder.nd rfl (Or.inl rfl) (pe_listRg rfl (by rfl) T.z_list (prg_2 (by rfl) T.z_range (pe_un un_neg pe_int) (pv 1)))))
    pss_nil)
    (pss_cons (ps_set (i := 4) sc_law_disorder.nd rfl (Or.inl rfl) (pe_call G_law_take (hr.mono (by omega)) (by rfl) T.m_law_take T.F_law_take.kp T.b_law_take .nil pass0 (pa_cons (pv 0) (pa_cons (pe_op op_sub (pe_callB call_len_seq (by rfl) T.z_len PySem.boot_len (pa_cons (pv 2) pa_nil)) pe_int) pa_nil))))
    (pss_cons (ps_if (pt_cmpR op_eq (pe_call G_law_take (hr.mono (by omega)) (by rfl) T.m_law_take T.F_law_take.kp T.b_law_take .nil pass0 (pa_cons (pv 0) (pa_cons pe_int pa_nil))) pe_int (nomark _))
    (pss_one (ps_ret (pe_callTy call_tuple_of (by rfl) T.z_tuple (by decide +kernel) (pa_cons (pe_op op_cat (pe_op op_cat (pe_slice sl_list (pv 2) po_none (po_some (pv 4))) (pe_lst (pa_cons (pe_ix ix_list (pv 2) (pe_op op_add (pv 4) pe_int) (fun _ _ => rfl)) (pa_cons (pe_ix ix_list (pv 2) (pv 4) (fun _ _ => rfl)) pa_nil)))) (pe_slice sl_list (pv 2) (po_some (pe_op op_add (pv 4) pe_int)) po_none)) pa_nil))))
    pss_nil)
    (pss_one (ps_ret (pe_callTy call_tuple_of (by rfl) T.z_tuple (by decide +kernel) (pa_cons (pe_op op_cat (pe_slice sl_list (pv 2) po_none (po_some (pe_op op_add (pv 4) pe_int))) (pe_slice sl_list (pv 2) (po_some (pv 4)) po_none)) pa_nil)))))))), ?_⟩
  refine ⟨_, rfl, Nat.le_of_ble_eq_true rfl, fun l1 hl1 => ?_⟩
  obtain ⟨H1, e1, s1, k1⟩ := newH hl1 (.lst [.int (-1)])
  rw [show upd H l1 (.lst [.int (-1)]) = H1 from e1]
  have g1 := Go.same hD s1
  have nl1 := new_ne hD hl1
  refine ⟨4, rfl, by decide, by decide, fun D hD' => ?_⟩
  have nDd := new_ne g1.dr hD'
  have s2 := same_new hD' (.lst [])
  refine lc_range (lo := 0) (n := 4) (fun (i : Nat) (H' : Hp) => ∃ fs : List Int, Go d H1 H' ∧ H' D = some (.lst (fs.map V.int)) ∧ fs.length = i ∧ ∀ s ∈ fs, 0 ≤ s ∧ s < n) ?_ ?_ ?_
  · exact ⟨[], .same g1.dr s2, upd_same, rfl, fun s h => nomatch h⟩
  · rintro i H' hi ⟨fs, gj, ej, hlen, hmem⟩
    refine ⟨rfl, yes_if ?_⟩
    refine ⟨_, rfl, _, rfl, d, n, rfl, gj.dr, n0, fun x H8 g8 x0 x1 => ?_⟩
    have ej8 := g8.fr D _ nDd ej
    refine ⟨_, ej8, big' (by rw [List.length_map]; omega), fs ++ [x], (gj.trans g8).put2 hD' nDd, by rw [upd_same, List.map_append]; rfl, by rw [List.length_append, hlen]; rfl, fun s hs => ?_⟩
    rcases List.mem_append.mp hs with hs | hs
    · exact hmem s hs
    · rw [List.mem_singleton.mp hs]
      exact ⟨x0, x1⟩
  · rintro H2 ⟨fs, g2, e2, hlen, hmem⟩
    have k2 := g2.fr l1 _ nl1 k1
    have g12 := g1.trans g2
    refine ⟨l1, D, _, _, rfl, rfl, k2, e2, big (by rw [List.length_map, hlen]; decide), fun l2 hl2 => ?_⟩
    obtain ⟨H3, e3, s3, k3⟩ := newH hl2 (.lst (([-1] ++ fs).map V.int))
    rw [show upd H2 l2 (.lst ([V.int (-1)] ++ fs.map V.int)) = H3 from e3]
    refine ⟨l2, [-1] ++ fs, rfl, sqd k3, by rw [List.length_append, hlen]; decide, fun s0 c1 hs0 hc1 => ?_⟩
    have s4 := same_new hs0 (SetO w s0 (fun j => decide (j ∈ [-1] ++ fs)) c1)
    have hc5 : c1 ≤ 5 := by
      rw [List.length_append, hlen] at hc1
      exact hc1
    refine ⟨s0, _, c1, rfl, upd_same, by omega, fun ns q1 hasc hmem2 hlen2 hq1 => ?_⟩
    have g13 := g12.trans (.same g12.dr (s3.trans s4))
    have nq1 := new_ne g13.dr hq1
    obtain ⟨H5, e5, s5, k5⟩ := newH hq1 (.lst (ns.map V.int))
    rw [e5]
    have g15 := g13.trans (.same g13.dr s5)
    have l2n : 2 ≤ ns.length := by
      match fs, hlen, hmem with
      | f :: fr, _, hm =>
        have hf := (hm f List.mem_cons_self).1
        refine two_of (x := -1) (y := f) ((hmem2 (-1)).mpr (by simp)) ((hmem2 f).mpr (by simp)) (by omega)
    refine ⟨fun σ H' => ∃ (rp : Addr) (ns : List Int), σ = [some (.ref d), some (.int n), some (.ref rp), none, none] ∧ Go d H H' ∧ H' rp = some (.lst (ns.map V.int)) ∧ rp ≠ d ∧ ns.Pairwise (· < ·) ∧ 2 ≤ ns.length ∧ ns.length ≤ 60, ?_, ?_⟩
    · refine ⟨_, rfl, d, 3, rfl, g15.dr, by decide, fun u H6 g6 _ _ => ⟨rfl, _, rfl, ?_⟩⟩
      refine ite2 (fun z => ?_) (fun z => ⟨q1, ns, rfl, g15.trans g6, g6.fr q1 _ nq1 k5, nq1, hasc, l2n, by omega⟩)
      refine ⟨_, rfl, _, rfl, _, _, rfl, rfl, ⟨by decide, by decide, by omega, by omega, by omega⟩, fun q2 hq2 => ?_⟩
      rw [rg_ints]
      have og := rg_good (a := -1) (by decide) (by decide) n0 (by omega)
      have ln : ((List.range (n - (-1)).toNat).map fun i : Nat => (-1 : Int) + (i : Int)).length = (n - (-1)).toNat := by rw [List.length_map, List.length_range]
      have g16 := g15.trans g6
      exact ⟨q2, _, rfl, g16.trans (Go.new g16.dr hq2), upd_same, new_ne g16.dr hq2, og.asc, by rw [ln]; omega, og.len⟩
    rintro σ H6 ⟨rp, ns, rfl, g6, k6, nrp, hasc, l2n, l60⟩
    refine ⟨_, rfl, _, rfl, rp, _, rfl, .inl (sqd k6), _, _, rfl, rfl, d, _, rfl, g6.dr, by rw [List.length_map]; omega, fun at_ H7 g7 t0 t1 => ?_⟩
    rw [List.length_map] at t1
    have k7 := g7.fr rp _ nrp k6
    obtain ⟨k, rfl⟩ : ∃ k : Nat, at_ = (k : Int) := ⟨at_.toNat, by omega⟩
    have hk1 : k + 1 < ns.length := by
      have : (k : Int) < (ns.length : Int) - 1 := t1
      omega
    have hx : ns[k]? = some ns[k] := List.getElem?_eq_getElem (by omega)
    have hy : ns[k + 1]? = some ns[k + 1] := List.getElem?_eq_getElem hk1
    have hlt := asc_at hasc hx hy
    generalize ns[k] = x at hx hlt
    generalize ns[k + 1] = y at hy hlt
    refine ⟨_, rfl, d, 2, rfl, g7.dr, by decide, fun u H8 g8 _ _ => ⟨rfl, _, rfl, ?_⟩⟩
    have k8 := g8.fr rp _ nrp k7
    have g68 := (g6.trans g7).trans g8
    have atx : atI (ns.map V.int) (k : Int) = some (V.int x) := atI_nat (by rw [List.getElem?_map, hx]; rfl)
    have aty : atI (ns.map V.int) ((k : Int) + 1) = some (V.int y) := by
      rw [show ((k : Int) + 1) = ((k + 1 : Nat) : Int) by omega]
      exact atI_nat (by rw [List.getElem?_map, hy]; rfl)
    refine ite2 (fun z => ?_) (fun z => ?_)
    · refine ⟨_, rfl, _, rfl, _, rfl, rp, _, rfl, sqd k8, fun a1 ha1 => ?_⟩
      rw [cut_take, ← List.map_take]
      obtain ⟨Ha, ea, sa, ka⟩ := newH ha1 (.lst ((ns.take k).map V.int))
      rw [ea]
      refine ⟨_, rfl, _, rfl, _, _, rfl, rfl, rp, _, _, _, rfl, rfl, sqd (sa _ _ k8), aty, _, rfl, _, rfl, rp, _, _, _, rfl, rfl, sqd (sa _ _ k8), atx, Nat.le_of_ble_eq_true rfl, fun a2 ha2 => ?_⟩
      obtain ⟨Hb, eb, sb, kb⟩ := newH ha2 (.lst [V.int y, V.int x])
      rw [eb]
      refine ⟨a1, a2, _, _, rfl, rfl, sb _ _ ka, kb, big (by rw [List.length_map, List.length_take]; show min k ns.length + 2 ≤ _; omega), fun a3 ha3 => ?_⟩
      obtain ⟨Hc, ec, sc, kc⟩ := newH ha3 (.lst ((ns.take k).map V.int ++ [V.int y, V.int x]))
      rw [ec]
      have sac := (sa.trans sb).trans sc
      refine ⟨_, rfl, _, rfl, _, _, rfl, rfl, _, rfl, rp, _, rfl, sqd (sac _ _ k8), fun a4 ha4 => ?_⟩
      rw [show cutV (ns.map V.int) (some ((k : Int) + 2)) none = (ns.map V.int).drop (k + 2) from cut_drop (k := k + 2), ← List.map_drop]
      obtain ⟨Hd, ed, sd, kd⟩ := newH ha4 (.lst ((ns.drop (k + 2)).map V.int))
      rw [ed]
      refine ⟨a3, a4, _, _, rfl, rfl, sd _ _ kc, kd, big (by rw [List.length_append, List.length_map, List.length_take, List.length_map, List.length_drop]; show min k ns.length + 2 + _ ≤ _; omega), fun a5 ha5 => ?_⟩
      obtain ⟨He, ee, se, ke⟩ := newH ha5 (.lst ((ns.take k).map V.int ++ [V.int y, V.int x] ++ (ns.drop (k + 2)).map V.int))
      rw [ee]
      refine ⟨a5, _, rfl, .inl ⟨sqd ke, fun t ht => ?_⟩⟩
      have sall := (sac.trans sd).trans se
      have gall := g68.trans (.same g68.dr sall)
      refine q t (ns.take k ++ y :: x :: ns.drop (k + 2)) _ (gall.trans (Go.new gall.dr ht)) (gall.free ht) ?_ (okO_bad fun h => ?_)
      · rw [upd_same, List.map_append, List.map_cons, List.map_cons, List.append_assoc]
        rfl
      · have := asc_pair h
        omega
    · refine ⟨_, rfl, _, rfl, _, _, rfl, rfl, _, rfl, rp, _, rfl, sqd k8, fun a1 ha1 => ?_⟩
      rw [show cutV (ns.map V.int) none (some ((k : Int) + 1)) = (ns.map V.int).take (k + 1) from cut_take (k := k + 1), ← List.map_take]
      obtain ⟨Ha, ea, sa, ka⟩ := newH ha1 (.lst ((ns.take (k + 1)).map V.int))
      rw [ea]
      refine ⟨_, rfl, _, rfl, _, rfl, rp, _, rfl, sqd (sa _ _ k8), fun a2 ha2 => ?_⟩
      rw [cut_drop, ← List.map_drop]
      obtain ⟨Hb, eb, sb, kb⟩ := newH ha2 (.lst ((ns.drop k).map V.int))
      rw [eb]
      refine ⟨a1, a2, _, _, rfl, rfl, sb _ _ ka, kb, big (by rw [List.length_map, List.length_take, List.length_map, List.length_drop]; omega), fun a3 ha3 => ?_⟩
      obtain ⟨Hc, ec, sc, kc⟩ := newH ha3 (.lst ((ns.take (k + 1)).map V.int ++ (ns.drop k).map V.int))
      rw [ec]
      refine ⟨a3, _, rfl, .inl ⟨sqd kc, fun t ht => ?_⟩⟩
      have sall := (sa.trans sb).trans sc
      have gall := g68.trans (.same g68.dr sall)
      refine q t (ns.take (k + 1) ++ ns.drop k) _ (gall.trans (Go.new gall.dr ht)) (gall.free ht) (by rw [upd_same, List.map_append]) (okO_bad fun h => ?_)
      obtain ⟨hk2, ek2⟩ := List.getElem?_eq_some_iff.mp hx
      rw [List.take_add_one, hx, List.drop_eq_getElem_cons hk2, ek2] at h
      simp only [Option.toList_some, List.append_assoc, List.singleton_append] at h
      have := asc_pair h
      omega
/-! ### _law_wrong_option -/
def spWrong (K : PySem.W.Frag) : Sp := fun vs H Q _ => ∃ (d sc : Addr) (ns : List Int) (n : Int), vs = [.ref d, .ref sc, .int n] ∧ Keep K d H sc (ns.map V.int) ∧ Dr H d ∧ 0 < n ∧ n ≤ 46 ∧ ∀ p o H', Go d H H' → H p = none → H' p = some (.tup (o.map V.int)) → okO n o = false → Q (.ref p) H'
theorem ok_law_wrong_option (T : Txt K mg) : FnOk P w K mg base CX0 3 T.a_law_wrong_option T.d_law_wrong_option P_law_wrong_option (spWrong K) := by
  have G_law_take := ok_law_take (P := P) (w := w) (base := base) T
  have G_law_cell := ok_law_cell (P := P) (w := w) (base := base) T
  have G_law_disorder := ok_law_disorder (P := P) (w := w) (base := base) T
  refine T.F_law_wrong_option.ok sc_law_wrong_option (fun vs H Q E h => ?_) (fun cdv A outer s H vs Q E hr h => ?_)
  · obtain ⟨d, sc, ns, n, rfl, _⟩ := h
    rfl
  obtain ⟨d, sc, ns, n, rfl, hk, hD, n0, n46, q⟩ := h
  refine ⟨_, (pss_cons (ps_set (i := 3) sc_law_wrong_option.nd rfl (Or.inl rfl) (pe_call G_law_take (hr.mono (by omega)) (by rfl) T.m_law_take T.F_law_take.kp T.b_law_take .nil pass0 (pa_cons (pv 0) (pa_cons pe_int pa_nil))))
    (pss_cons (ps_set (i := 4) sc_law_wrong_option.nd rfl (Or.inl rfl) (pe_call G_law_take (hr.mono (by omega)) (by rfl) T.m_law_take T.F_law_take.kp T.b_law_take .nil pass0 (pa_cons (pv 0) (pa_cons (pv 2) pa_nil))))
    (pss_cons (ps_set (i := 5) sc_law_wrong_option.nd rfl (Or.inl rfl) (pe_call G_law_take (hr.mono (by omega)) (by rfl) T.m_law_take T.F_law_take.kp T.b_law_take .nil pass0 (pa_cons (pv 0) (pa_cons pe_int pa_nil))))
    (C8.pss_cut (ps_if (pt_cmpR op_eq (pe_call G_law_take (hr.mono (by omega)) (by rfl) T.m_law_take T.F_law_take.kp T.b_law_take .nil pass0 (pa_cons (pv 0) (pa_cons pe_int pa_nil))) pe_int (nomark _))
    (pss_one (ps_set (i := 5) sc_law_wrong_option.nd rfl (Or.inl rfl) (pe_callB (call_abs) (by rfl) T.z_abs (by decide +kernel) (pa_cons (pe_call G_law_cell (hr.mono (by omega)) (by rfl) T.m_law_cell T.F_law_cell.kp T.b_law_cell .nil pass0 (pa_cons (pv 1) (pa_cons (pv 0) pa_nil))) pa_nil))))
    pss_nil)
    (pss_cons (ps_if (pt_cmpR op_eq (pv 3) pe_int (nomark _))
    (pss_one (ps_ret (pe_tup pa_nil)))
    pss_nil)
    (pss_cons (ps_if (pt_cmpR op_eq (pv 3) pe_int (nomark _))
    (pss_one (ps_ret (pe_tup (pa_cons (pv 4) (pa_cons (pv 4) pa_nil)))))
    pss_nil)
    (pss_cons (ps_if (pt_cmpR op_eq (pv 3) pe_int (nomark _))
    (pss_one (ps_ret (pe_tup (pa_cons (pv 4) (pa_cons (pe_un un_neg pe_int) pa_nil)))))
    pss_nil)
    (pss_cons (ps_if (pt_cmpR op_eq (pv 3) pe_int (nomark _))
    (pss_one (ps_ret (pe_ix ix_list (pe_lst (pa_cons (pe_tup (pa_cons (pe_un un_neg pe_int) (pa_cons (pv 4) (pa_cons (pv 4) pa_nil)))) (pa_cons (pe_tup (pa_cons (pe_un un_neg pe_int) (pa_cons (pe_un un_neg pe_int) pa_nil))) (pa_cons (pe_tup (pa_cons (pe_un un_neg pe_int) (pa_cons (pe_un un_neg pe_int) (pa_cons (pv 4) pa_nil)))) pa_nil)))) (pe_call G_law_take (hr.mono (by omega)) (by rfl) T.m_law_take T.F_law_take.kp T.b_law_take .nil pass0 (pa_cons (pv 0) (pa_cons pe_int pa_nil))) (fun _ _ => rfl))))
    pss_nil)
    (pss_cons (ps_if (pt_cmpR op_gt (pv 3) pe_int (nomark _))
    (pss_one (ps_ret (pe_call G_law_disorder (hr.mono (by omega)) (by rfl) T.m_law_disorder T.F_law_disorder.kp T.b_law_disorder .nil pass0 (pa_cons (pv 0) (pa_cons (pv 2) pa_nil)))))
    pss_nil)
    (pss_cons (ps_if (pt_cmpR op_eq (pv 3) pe_int (nomark _))
    (pss_one (ps_ret (pe_ix ix_list (pe_lst (pa_cons (pe_tup (pa_cons (pe_op op_sub (pe_un un_neg pe_int) (pv 5)) pa_nil)) (pa_cons (pe_tup (pa_cons (pe_op op_sub (pe_un un_neg pe_int) (pv 5)) (pa_cons (pv 4) pa_nil))) pa_nil))) (pe_call G_law_take (hr.mono (by omega)) (by rfl) T.m_law_take T.F_law_take.kp T.b_law_take .nil pass0 (pa_cons (pv 0) (pa_cons pe_int pa_nil))) (fun _ _ => rfl))))
    pss_nil)
    (pss_one (ps_ret (pe_ix ix_list (pe_lst (pa_cons (pe_tup (pa_cons (pe_op op_add (pv 2) (pv 5)) pa_nil)) (pa_cons (pe_tup (pa_cons (pe_un un_neg pe_int) (pa_cons (pv 4) (pa_cons (pe_op op_add (pv 2) (pv 5)) pa_nil)))) pa_nil))) (pe_call G_law_take (hr.mono (by omega)) (by rfl) T.m_law_take T.F_law_take.kp T.b_law_take .nil pass0 (pa_cons (pv 0) (pa_cons pe_int pa_nil))) (fun _ _ => rfl)))))))))))))), ?_⟩
  refine ⟨_, rfl, d, 9, rfl, hD, by decide, fun kd H1 g1 kd0 kd1 => ?_⟩
  refine ⟨_, rfl, _, rfl, d, n, rfl, g1.dr, n0, fun pl H2 g2 p0 p1 => ?_⟩
  refine ⟨_, rfl, d, 5, rfl, g2.dr, by decide, fun far H3 g3 f0 f1 => ?_⟩
  have g13 := (g1.trans g2).trans g3
  refine ⟨fun σ H' => ∃ far : Int, σ = [some (.ref d), some (.ref sc), some (.int n), some (.int kd), some (.int pl), some (.int far)] ∧ Go d H H' ∧ 0 ≤ far, ?_, ?_⟩
  · refine ⟨_, rfl, d, 4, rfl, g3.dr, by decide, fun u H4 g4 _ _ => ⟨rfl, _, rfl, ?_⟩⟩
    refine ite2 (fun z => ?_) (fun z => ⟨far, rfl, g13.trans g4, f0⟩)
    refine ⟨_, rfl, _, rfl, sc, d, ns, rfl, (hk.go g13).go g4, g4.dr, fun r H5 g5 _ => ⟨_, rfl, ?_⟩⟩
    exact ⟨_, rfl, (g13.trans g4).trans g5, by omega⟩
  rintro σ H5 ⟨far, rfl, g5, f0⟩
  have mk : ∀ (t : Addr) (o : Opt) (H6 : Hp), Go d H H6 → H6 t = none → okO n o = false → Q (.ref t) (upd H6 t (.tup (o.map V.int))) := fun t o H6 g6 ht hb => q t o _ (g6.trans (Go.new g6.dr ht)) (g6.free ht) upd_same hb
  refine ⟨_, rfl, rfl, _, rfl, ?_⟩
  refine ite2 (fun z => ⟨Nat.zero_le _, fun t ht => mk t [] H5 g5 ht rfl⟩) (fun z0 => ?_)
  refine ⟨_, rfl, rfl, _, rfl, ?_⟩
  refine ite2 (fun z => ⟨_, rfl, _, rfl, Nat.le_of_ble_eq_true rfl, fun t ht => mk t [pl, pl] H5 g5 ht (okO_bad fun h => ?_)⟩) (fun z1 => ?_)
  · have := asc_pair (a := []) h
    omega
  refine ⟨_, rfl, rfl, _, rfl, ?_⟩
  refine ite2 (fun z => ⟨_, rfl, _, rfl, Nat.le_of_ble_eq_true rfl, fun t ht => mk t [pl, -1] H5 g5 ht (okO_bad fun h => ?_)⟩) (fun z2 => ?_)
  · have := asc_pair (a := []) h
    omega
  refine ⟨_, rfl, rfl, _, rfl, ?_⟩
  refine ite2 (fun z => ?_) (fun z3 => ?_)
  · refine ⟨_, rfl, _, rfl, _, rfl, Nat.le_of_ble_eq_true rfl, fun t1 ht1 => ?_⟩
    obtain ⟨Ha, ea, sa, ka⟩ := newH ht1 (.tup ([-1, pl, pl].map V.int))
    rw [show upd H5 t1 (.tup [.int (-1), .int pl, .int pl]) = Ha from ea]
    refine ⟨_, rfl, _, rfl, Nat.le_of_ble_eq_true rfl, fun t2 ht2 => ?_⟩
    obtain ⟨Hb, eb, sb, kb⟩ := newH ht2 (.tup ([-1, -1].map V.int))
    rw [show upd Ha t2 (.tup [.int (-1), .int (-1)]) = Hb from eb]
    refine ⟨_, rfl, _, rfl, _, rfl, Nat.le_of_ble_eq_true rfl, fun t3 ht3 => ?_⟩
    obtain ⟨Hc, ec, sc', kc⟩ := newH ht3 (.tup ([-1, -1, pl].map V.int))
    rw [show upd Hb t3 (.tup [.int (-1), .int (-1), .int pl]) = Hc from ec]
    refine ⟨Nat.le_of_ble_eq_true rfl, fun l hl => ?_⟩
    obtain ⟨Hd, ed, sd, kd'⟩ := newH hl (.lst [.ref t1, .ref t2, .ref t3])
    rw [ed]
    have gd := g5.trans (.same g5.dr (((sa.trans sb).trans sc').trans sd))
    refine ⟨_, rfl, d, 3, rfl, gd.dr, by decide, fun u H6 g6 u0 u1 => ?_⟩
    have gc := g5.trans (.same g5.dr ((sa.trans sb).trans sc'))
    have el := g6.fr l _ (new_ne gc.dr hl) kd'
    have g56 := gd.trans g6
    have hu : u = 0 ∨ u = 1 ∨ u = 2 := by omega
    rcases hu with rfl | rfl | rfl
    · refine ⟨l, _, _, _, rfl, rfl, sqd el, atI0, q t1 [-1, pl, pl] H6 g56 (g5.free ht1) (g6.tp gd.dr _ _ (((sb.trans sc').trans sd) _ _ ka)) (okO_bad fun h => ?_)⟩
      have := asc_pair (a := [-1]) h
      omega
    · refine ⟨l, _, _, _, rfl, rfl, sqd el, atI1, q t2 [-1, -1] H6 g56 (g5.free (sa.free ht2)) (g6.tp gd.dr _ _ ((sc'.trans sd) _ _ kb)) (okO_bad fun h => ?_)⟩
      have := asc_pair (a := []) h
      omega
    · refine ⟨l, _, _, _, rfl, rfl, sqd el, (atI_nat (j := 2) rfl), q t3 [-1, -1, pl] H6 g56 (g5.free ((sa.trans sb).free ht3)) (g6.tp gd.dr _ _ (sd _ _ kc)) (okO_bad fun h => ?_)⟩
      have := asc_pair (a := []) h
      omega
  refine ⟨_, rfl, _, _, rfl, rfl, _, rfl, ?_⟩
  refine ite2 (fun z => ⟨_, rfl, _, rfl, d, n, rfl, g5.dr, n0, n46, fun p o H6 g6 hp ep hb => q p o H6 (g5.trans g6) (g5.free hp) ep hb⟩) (fun z5 => ?_)
  refine ⟨_, rfl, rfl, _, rfl, ?_⟩
  refine ite2 (fun z => ?_) (fun z4 => ?_)
  · refine ⟨_, rfl, _, rfl, _, _, rfl, rfl, Nat.le_of_ble_eq_true rfl, fun t1 ht1 => ?_⟩
    obtain ⟨Ha, ea, sa, ka⟩ := newH ht1 (.tup ([-2 - far].map V.int))
    rw [show upd H5 t1 (.tup [.int (-2 - far)]) = Ha from ea]
    refine ⟨_, rfl, _, rfl, _, _, rfl, rfl, _, rfl, Nat.le_of_ble_eq_true rfl, fun t2 ht2 => ?_⟩
    obtain ⟨Hb, eb, sb, kb⟩ := newH ht2 (.tup ([-2 - far, pl].map V.int))
    rw [show upd Ha t2 (.tup [.int (-2 - far), .int pl]) = Hb from eb]
    refine ⟨Nat.le_of_ble_eq_true rfl, fun l hl => ?_⟩
    obtain ⟨Hd, ed, sd, kd'⟩ := newH hl (.lst [.ref t1, .ref t2])
    rw [ed]
    have gc := g5.trans (.same g5.dr (sa.trans sb))
    have gd := g5.trans (.same g5.dr ((sa.trans sb).trans sd))
    refine ⟨_, rfl, d, 2, rfl, gd.dr, by decide, fun u H6 g6 u0 u1 => ?_⟩
    have el := g6.fr l _ (new_ne gc.dr hl) kd'
    have g56 := gd.trans g6
    have hu : u = 0 ∨ u = 1 := by omega
    rcases hu with rfl | rfl
    · refine ⟨l, _, _, _, rfl, rfl, sqd el, atI0, q t1 [-2 - far] H6 g56 (g5.free ht1) (g6.tp gd.dr _ _ ((sb.trans sd) _ _ ka)) (okO_bad fun h => ?_)⟩
      have := asc_low h (-2 - far) (by simp)
      omega
    · refine ⟨l, _, _, _, rfl, rfl, sqd el, atI1, q t2 [-2 - far, pl] H6 g56 (g5.free (sa.free ht2)) (g6.tp gd.dr _ _ (sd _ _ kb)) (okO_bad fun h => ?_)⟩
      have := asc_low h (-2 - far) (by simp)
      omega
  · refine ⟨_, rfl, _, rfl, _, _, rfl, rfl, Nat.le_of_ble_eq_true rfl, fun t1 ht1 => ?_⟩
    obtain ⟨Ha, ea, sa, ka⟩ := newH ht1 (.tup ([n + far].map V.int))
    rw [show upd H5 t1 (.tup [.int (n + far)]) = Ha from ea]
    refine ⟨_, rfl, _, rfl, _, rfl, _, rfl, _, _, rfl, rfl, Nat.le_of_ble_eq_true rfl, fun t2 ht2 => ?_⟩
    obtain ⟨Hb, eb, sb, kb⟩ := newH ht2 (.tup ([-1, pl, n + far].map V.int))
    rw [show upd Ha t2 (.tup [.int (-1), .int pl, .int (n + far)]) = Hb from eb]
    refine ⟨Nat.le_of_ble_eq_true rfl, fun l hl => ?_⟩
    obtain ⟨Hd, ed, sd, kd'⟩ := newH hl (.lst [.ref t1, .ref t2])
    rw [ed]
    have gc := g5.trans (.same g5.dr (sa.trans sb))
    have gd := g5.trans (.same g5.dr ((sa.trans sb).trans sd))
    refine ⟨_, rfl, d, 2, rfl, gd.dr, by decide, fun u H6 g6 u0 u1 => ?_⟩
    have el := g6.fr l _ (new_ne gc.dr hl) kd'
    have g56 := gd.trans g6
    have hu : u = 0 ∨ u = 1 := by omega
    rcases hu with rfl | rfl
    · refine ⟨l, _, _, _, rfl, rfl, sqd el, atI0, q t1 [n + far] H6 g56 (g5.free ht1) (g6.tp gd.dr _ _ ((sb.trans sd) _ _ ka)) (okO_bad fun h => ?_)⟩
      have := asc_low h (n + far) (by simp)
      omega
    · refine ⟨l, _, _, _, rfl, rfl, sqd el, atI1, q t2 [-1, pl, n + far] H6 g56 (g5.free (sa.free ht2)) (g6.tp gd.dr _ _ (sd _ _ kb)) (okO_bad fun h => ?_)⟩
      have := asc_low h (n + far) (by simp)
      omega
end
end NL

namespace NL
open PySem PySem.Spec PyProof.Rows L2
def spLaw (K : PySem.W.Frag) : Sp := fun vs H Q _ => ∃ (a : Addr) (ns : List Int), vs = [.ref a] ∧ SqL K H a (ns.map V.int) ∧ ns.length ≤ 63 ∧ ∀ H', Q (.bl true) H'
theorem slA_of {K : PySem.W.Frag} {a : Addr} {xs : List V} {lo hi : Option Int} {H : Hp} {Q : VK} (ha : H a = some (.tup xs)) (q : ∀ p H', Same H H' → H' p = some (.tup (cutV xs lo hi)) → Q (.ref p) H') : rSlA K (.ref a) lo hi H Q := by
  refine ⟨a, xs, rfl, sqt ha, fun h => ?_, fun _ p hp => q p _ (same_new hp _) upd_same⟩
  refine q a H (Same.refl H) ?_
  have : cutV xs lo hi = xs := by
    unfold cutV
    rw [h.1, h.2, List.drop_zero, Nat.sub_zero]
    exact List.take_length
  rw [this]
  exact ha
theorem okA_bad {A : Ar} {os : Pos'} {o : Opt} (h1 : os ∈ A) (h2 : o ∈ os) (h : okO A.length o = false) : okA A = false := by
  cases e : okA A with
  | false => rfl
  | true =>
    have := List.all_eq_true.mp (List.all_eq_true.mp e os h1) o h2
    rw [h] at this
    cases this
theorem noOk {A : Ar} {B : Prop} (h : okA A = true) : okA A = false → B := fun e => by
  rw [h] at e
  cases e
section
variable {P : Program} {w : World} {K : PySem.W.Frag} {mg : Str → Option Value} {base : Heap}
theorem ok_law (T : Txt K mg) (EX : Exs K mg) : FnOk P w K mg base CX0 5 T.alaw T.dlaw Plaw (spLaw K) := by
  have G_law_draws := ok_law_draws (P := P) (w := w) (base := base) T
  have G_law_take := ok_law_take (P := P) (w := w) (base := base) T
  have G_law_arena := ok_law_arena (P := P) (w := w) (base := base) T
  have G_law_checked := ok_law_checked (P := P) (w := w) (base := base) T EX
  have G_law_only := ok_law_only (P := P) (w := w) (base := base) T
  have G_law_wrong_option := ok_law_wrong_option (P := P) (w := w) (base := base) T
  refine T.Flaw.ok sclaw (fun vs H Q E h => ?_) (fun cdv A outer s H vs Q E hr h => ?_)
  · obtain ⟨a, ns, rfl, _⟩ := h
    rfl
  obtain ⟨a, ns, rfl, hS, hl, q⟩ := h
  refine ⟨_, (pss_cons (ps_set (i := 1) sclaw.nd rfl (Or.inl rfl) (pe_call G_law_draws (hr.mono (by omega)) (by rfl) T.m_law_draws T.F_law_draws.kp T.b_law_draws .nil pass0 (pa_cons (pv 0) (pa_cons pe_int pa_nil))))
    (pss_cons (ps_set (i := 2) sclaw.nd rfl (Or.inl rfl) (pe_call G_law_arena (hr.mono (by omega)) (by rfl) T.m_law_arena T.F_law_arena.kp T.b_law_arena .nil pass0 (pa_cons (pv 1) (pa_cons (pe_ix ix_list (pe_lst (pa_cons pe_int (pa_cons pe_int (pa_cons pe_int (pa_cons pe_int (pa_cons pe_int (pa_cons pe_int (pa_cons pe_int (pa_cons pe_int pa_nil))))))))) (pe_call G_law_take (hr.mono (by omega)) (by rfl) T.m_law_take T.F_law_take.kp T.b_law_take .nil pass0 (pa_cons (pv 1) (pa_cons pe_int pa_nil))) (fun _ _ => rfl)) pa_nil))))
    (pss_cons (ps_if (PW.pt (pw_or (pt_cmpR op_isnot_bl (pe_call G_law_checked (hr.mono (by omega)) (by rfl) T.m_law_checked T.F_law_checked.kp T.b_law_checked .nil pass0 (pa_cons (pv 2) pa_nil)) pe_bl (nomark _)) (pw_or (pt_cmpR op_isnot_bl (pe_call G_law_checked (hr.mono (by omega)) (by rfl) T.m_law_checked T.F_law_checked.kp T.b_law_checked .nil pass0 (pa_cons (pe_tup pa_nil) pa_nil)) pe_bl (nomark _)) (pw_or1 (pt_cmpR op_isnot_bl (pe_call G_law_checked (hr.mono (by omega)) (by rfl) T.m_law_checked T.F_law_checked.kp T.b_law_checked .nil pass0 (pa_cons (pe_tup (pa_cons (pe_tup pa_nil) (pa_cons (pe_tup pa_nil) pa_nil))) pa_nil)) pe_bl (nomark _))))))
    (pss_one (ps_ret pe_bl))
    pss_nil)
    (C8.pss_cut (ps_if (pt_cmpR op_eq (pe_callB call_len_seq (by rfl) T.z_len PySem.boot_len (pa_cons (pv 2) pa_nil)) pe_int (nomark _))
    (pss_one (ps_set (i := 2) sclaw.nd rfl (Or.inl rfl) (pe_tup (pa_cons (pe_tup pa_nil) pa_nil))))
    pss_nil)
    (pss_cons (ps_set (i := 3) sclaw.nd rfl (Or.inl rfl) (pe_call G_law_take (hr.mono (by omega)) (by rfl) T.m_law_take T.F_law_take.kp T.b_law_take .nil pass0 (pa_cons (pv 1) (pa_cons (pe_callB call_len_seq (by rfl) T.z_len PySem.boot_len (pa_cons (pv 2) pa_nil)) pa_nil))))
    (pss_cons (ps_set (i := 4) sclaw.nd rfl (Or.inl rfl) (pe_call G_law_take (hr.mono (by omega)) (by rfl) T.m_law_take T.F_law_take.kp T.b_law_take .nil pass0 (pa_cons (pv 1) (pa_cons (pe_op op_add (pe_callB call_len_seq (by rfl) T.z_len PySem.boot_len (pa_cons (pe_ix ix_tup (pv 2) (pv 3) (fun _ _ => rfl)) pa_nil)) pe_int) pa_nil))))
    (pss_cons (ps_set (i := 5) sclaw.nd rfl (Or.inl rfl) (pe_call G_law_wrong_option (hr.mono (by omega)) (by rfl) T.m_law_wrong_option T.F_law_wrong_option.kp T.b_law_wrong_option .nil pass0 (pa_cons (pv 1) (pa_cons (pv 0) (pa_cons (pe_callB call_len_seq (by rfl) T.z_len PySem.boot_len (pa_cons (pv 2) pa_nil)) pa_nil)))))
    (pss_cons (ps_set (i := 6) sclaw.nd rfl (Or.inl rfl) (pe_op op_catA (pe_op op_catA (pe_slice sl_tupA (pe_ix ix_tup (pv 2) (pv 3) (fun _ _ => rfl)) po_none (po_some (pv 4))) (pe_tup (pa_cons (pv 5) pa_nil))) (pe_slice sl_tupA (pe_ix ix_tup (pv 2) (pv 3) (fun _ _ => rfl)) (po_some (pv 4)) po_none)))
    (pss_cons (ps_if (pt_cmpR (op_neD hr.units) (pe_call G_law_checked (hr.mono (by omega)) (by rfl) T.m_law_checked T.F_law_checked.kp T.b_law_checked .nil pass0 (pa_cons (pe_op op_catA (pe_op op_catA (pe_slice sl_tupA (pv 2) po_none (po_some (pv 3))) (pe_tup (pa_cons (pv 6) pa_nil))) (pe_slice sl_tupA (pv 2) (po_some (pe_op op_add (pv 3) pe_int)) po_none)) pa_nil)) (pe_call G_law_only (hr.mono (by omega)) (by rfl) T.m_law_only T.F_law_only.kp T.b_law_only .nil pass0 (pa_cons pe_int pa_nil)) (nomark _))
    (pss_one (ps_ret pe_bl))
    pss_nil)
    (pss_one (ps_ret (pe_cmpR op_is_bl (pe_call G_law_checked (hr.mono (by omega)) (by rfl) T.m_law_checked T.F_law_checked.kp T.b_law_checked .nil pass0 (pa_cons (pv 2) pa_nil)) pe_bl (nomark _))))))))))))), ?_⟩
  refine ⟨_, rfl, a, ns, 1300, rfl, hS, hl, by decide, by decide, fun d H1 s1 hd D1 => ?_⟩
  have hk := Keep.old hS hd s1
  refine ⟨_, rfl, Nat.le_of_ble_eq_true rfl, fun l hl' => ?_⟩
  obtain ⟨H2, e2, s2, k2⟩ := newH hl' (.lst ([9, 9, 9, 9, 9, 9, 9, 40].map V.int))
  rw [show upd H1 l (.lst [.int 9, .int 9, .int 9, .int 9, .int 9, .int 9, .int 9, .int 40]) = H2 from e2]
  have g2 := Go.same D1 s2
  refine ⟨_, rfl, d, 8, rfl, g2.dr, by decide, fun u H3 g3 u0 u1 => ?_⟩
  obtain ⟨m, hm, hmm⟩ := atI_map (f := V.int) (xs := ([9, 9, 9, 9, 9, 9, 9, 40] : List Int)) u0 u1
  have hm40 : 0 ≤ m ∧ m ≤ 40 := by
    simp only [List.mem_cons, List.not_mem_nil, or_false] at hmm
    omega
  refine ⟨l, _, _, _, rfl, rfl, sqd (g3.fr l _ (new_ne D1 hl') k2), hm, d, m, rfl, g3.dr, hm40.1, by omega, fun v A1 H4 g4 hA1 hG1 => ?_⟩
  have g14 := (g2.trans g3).trans g4
  -- right ones
  refine ⟨_, rfl, v, A1, rfl, hA1, fun _ H5 s5 => ?_, noOk (okA_good hG1)⟩
  refine ⟨_, _, rfl, rfl, _, rfl, ?_⟩
  refine ifF rfl ?_
  refine ⟨Nat.zero_le _, fun t1 ht1 => ⟨_, [], rfl, ⟨t1, [], rfl, upd_same, .nil⟩, fun _ H6 s6 => ?_, noOk rfl⟩⟩
  have s46 := s5.trans ((same_new ht1 _).trans s6)
  refine ⟨_, _, rfl, rfl, _, rfl, ?_⟩
  refine ifF rfl ?_
  refine ⟨Nat.zero_le _, fun t2 ht2 => ?_⟩
  obtain ⟨Ha, ea, sa, ka⟩ := newH ht2 (.tup [])
  rw [ea]
  refine ⟨Nat.zero_le _, fun t3 ht3 => ?_⟩
  obtain ⟨Hb, eb, sb, kb⟩ := newH ht3 (.tup [])
  rw [eb]
  refine ⟨Nat.le_of_ble_eq_true rfl, fun t4 ht4 => ?_⟩
  obtain ⟨Hc, ec, sc, kc⟩ := newH ht4 (.tup [.ref t2, .ref t3])
  rw [ec]
  refine ⟨_, [[], []], rfl, ⟨t4, _, rfl, kc, .cons ⟨t2, [], rfl, (sb.trans sc) _ _ ka, .nil⟩ (.cons ⟨t3, [], rfl, sc _ _ kb, .nil⟩ .nil)⟩, fun _ H7 s7 => ?_, noOk rfl⟩
  refine ⟨_, _, rfl, rfl, _, rfl, ?_⟩
  refine ifF rfl ?_
  have s47 := s46.trans (((sa.trans sb).trans sc).trans s7)
  have g17 := g14.trans (.same g14.dr s47)
  have hA7 := hA1.tp (.same s47)
  -- not empty
  refine ⟨fun σ H' => ∃ (b0 : Addr) (xs : List V) (A : Ar), σ = [some (.ref a), some (.ref d), some (.ref b0), none, none, none, none] ∧ Go d H1 H' ∧ H' b0 = some (.tup xs) ∧ Each (PosIn H') A xs ∧ ArG A ∧ 0 < A.length, ?_, ?_⟩
  · obtain ⟨b0, xs, rfl, e0, hxs⟩ := id hA7
    refine ⟨_, rfl, b0, _, rfl, .inr (sqt e0), rfl, _, rfl, ?_⟩
    refine ite2 (fun z => ?_) (fun z => ?_)
    · refine ⟨Nat.zero_le _, fun t5 ht5 => ?_⟩
      obtain ⟨Hd, ed, sd, kd⟩ := newH ht5 (.tup [])
      rw [ed]
      refine ⟨Nat.le_of_ble_eq_true rfl, fun t6 ht6 => ?_⟩
      obtain ⟨He, ee, se, ke⟩ := newH ht6 (.tup [.ref t5])
      rw [ee]
      refine ⟨t6, _, [[]], rfl, g17.trans (.same g17.dr (sd.trans se)), ke, .cons ⟨t5, [], rfl, se _ _ kd, .nil⟩ .nil, ⟨by decide, fun os h => ?_⟩, by decide⟩
      rw [List.mem_singleton.mp h]
      exact ⟨by decide, fun o h => nomatch h⟩
    · have hn := int_ne z
      have := hxs.1
      exact ⟨b0, xs, A1, rfl, g17, e0, hxs, hG1, by omega⟩
  rintro σ H8 ⟨b0, xs, A0, rfl, g8, e0, hxs, hG, hpos⟩
  have hxl := hxs.1
  have h46 := hG.1
  refine ⟨_, rfl, _, rfl, b0, _, rfl, .inr (sqt e0), d, _, rfl, g8.dr, by omega, fun at_ H9 g9 t0 t1' => ?_⟩
  rw [hxl] at t1'
  have e9 := g9.tp g8.dr _ _ e0
  have hxs9 := hxs.mono fun o x => PosIn.tp (g9.tp g8.dr)
  obtain ⟨os, x0, hos, hat, b1, zs, rfl, e1, hzs⟩ := hxs9.atI t0 t1'
  have hzl := hzs.1
  have hPG := hG.2 os (List.mem_of_getElem? hos)
  refine ⟨_, rfl, _, rfl, _, rfl, b0, _, _, _, rfl, rfl, sqt e9, hat, b1, _, rfl, .inr (sqt e1), _, _, rfl, rfl, d, _, rfl, g9.dr, by omega, fun pc H10 g10 p0 p1 => ?_⟩
  have e10 := g10.tp g9.dr _ _ e9
  refine ⟨_, rfl, _, rfl, _, rfl, b0, _, rfl, .inr (sqt e10), d, a, ns, _, rfl, (((hk.go g8).go g9).go g10), g10.dr, by omega, by omega, fun wr o H11 g11 hw ew hb => ?_⟩
  rw [hxl] at hb
  obtain ⟨k, rfl⟩ : ∃ k : Nat, pc = (k : Int) := ⟨pc.toNat, by omega⟩
  obtain ⟨i, rfl⟩ : ∃ i : Nat, at_ = (i : Int) := ⟨at_.toNat, by omega⟩
  have g911 := g10.trans g11
  have tp11 := g911.tp g9.dr
  have eA := tp11 _ _ e9
  have e1A := tp11 _ _ e1
  have hzA := hzs.mono fun o x => OptIn.tp tp11
  have hxA := hxs9.mono fun o x => PosIn.tp tp11
  -- the options with the wrong one
  refine ⟨_, rfl, _, rfl, b0, _, _, _, rfl, rfl, sqt eA, hat, _, rfl, _, rfl, ?_⟩
  refine slA_of e1A fun p1' H12 s12 e12 => ?_
  rw [cut_take] at e12
  refine ⟨_, rfl, Nat.le_of_ble_eq_true rfl, fun tw htw => ?_⟩
  obtain ⟨H13, e13, s13, k13⟩ := newH htw (.tup [.ref wr])
  rw [e13]
  have lz : zs.length ≤ 12 := by rw [hzl]; exact hPG.1
  refine catA_of (s13 _ _ e12) k13 (by rw [List.length_take, List.length_singleton]; omega) fun p2' H14 s14 e14 => ?_
  have s1114 := (s12.trans s13).trans s14
  refine ⟨_, rfl, _, rfl, b0, _, _, _, rfl, rfl, sqt (s1114 _ _ eA), hat, _, rfl, _, rfl, ?_⟩
  unfold tNoPart
  refine slA_of (s1114 _ _ e1A) fun p3' H15 s15 e15 => ?_
  rw [cut_drop] at e15
  refine catA_of (s15 _ _ e14) e15 (by rw [List.length_append, List.length_take, List.length_singleton, List.length_drop]; omega) fun p4' H16 s16 e16 => ?_
  have s1116 := (s1114.trans s15).trans s16
  have hnew : Each (OptIn H16) (os.take k ++ [o] ++ os.drop k) (zs.take k ++ [V.ref wr] ++ zs.drop k) := (((hzA.take k).snoc ⟨wr, rfl, ew⟩).app (hzA.drop k)).mono fun o x => OptIn.tp (.same s1116)
  have eA16 := s1116 _ _ eA
  have hxA16 := hxA.mono fun o x => PosIn.tp (.same s1116)
  -- the arena with it
  refine ⟨_, rfl, _, rfl, _, rfl, ?_⟩
  refine slA_of eA16 fun p5' H17 s17 e17 => ?_
  rw [cut_take] at e17
  refine ⟨_, rfl, Nat.le_of_ble_eq_true rfl, fun tn htn => ?_⟩
  obtain ⟨H18, e18, s18, k18⟩ := newH htn (.tup [.ref p4'])
  rw [e18]
  refine catA_of (s18 _ _ e17) k18 (by rw [List.length_take, List.length_singleton]; omega) fun p6' H19 s19 e19 => ?_
  have s1619 := (s17.trans s18).trans s19
  refine ⟨_, rfl, _, rfl, _, _, rfl, rfl, _, rfl, ?_⟩
  refine slA_of (s1619 _ _ eA16) fun p7' H20 s20 e20 => ?_
  rw [show cutV xs (some ((i : Int) + 1)) none = xs.drop (i + 1) from cut_drop (k := i + 1)] at e20
  refine catA_of (s20 _ _ e19) e20 (by rw [List.length_append, List.length_take, List.length_singleton, List.length_drop]; omega) fun p8' H21 s21 e21 => ?_
  have s1621 := (s1619.trans s20).trans s21
  have hin : i < A0.length := by
    have : (i : Int) < (A0.length : Int) := t1'
    omega
  have hlen : (A0.take i ++ [os.take k ++ [o] ++ os.drop k] ++ A0.drop (i + 1)).length = A0.length := by
    rw [List.length_append, List.length_append, List.length_take, List.length_singleton, List.length_drop]
    omega
  have hbad : okA (A0.take i ++ [os.take k ++ [o] ++ os.drop k] ++ A0.drop (i + 1)) = false := okA_bad (os := os.take k ++ [o] ++ os.drop k) (o := o) (by simp) (by simp) (by rw [hlen]; exact hb)
  refine ⟨_, _, rfl, ⟨p8', _, rfl, e21, (((hxA16.take i).snoc ⟨p4', _, rfl, e16, hnew⟩).app (hxA16.drop (i + 1))).mono fun o x => PosIn.tp (.same s1621)⟩, fun h => ?_, fun _ pb H22 s22 e22 => ?_⟩
  · rw [hbad] at h
    cases h
  refine ⟨0, rfl, fun po H23 s23 e23 => ?_⟩
  rw [only_at] at e23
  refine ne_bls (s23 _ _ e22) e23 ⟨_, rfl, ?_⟩
  refine iteF ?_
  have sAll := ((s1116.trans s1621).trans s22).trans s23
  refine ⟨_, rfl, _, A0, rfl, ⟨b0, xs, rfl, sAll _ _ eA, hxA.mono fun o x => PosIn.tp (.same sAll)⟩, fun _ H24 s24 => ⟨_, _, rfl, rfl, boolE (decide_eq_true rfl) (q H24)⟩, noOk (okA_good hG)⟩
end
end NL

namespace NL
open PySem PySem.Spec PyProof.Rows L2
theorem all_mk {l : PySem.W.OpenLaw} {w : World} {K : PySem.W.Frag} {h : Heap} {mg : Str → Option Value} {fa fcheck_arena fis_ascending f_law_draws f_law_take f_law_cell f_law_option f_law_arena f_law_class f_law_only f_law_disorder f_law_wrong_option f_law_checked flaw : Addr} (X : K.In h) (G : h.Ns mainGlobals mg) (hfa : mg "law" = some (.ref fa))
    {odcheck_arena ancheck_arena : Option Addr} {slcheck_arena : Array (Option Value)} {occheck_arena kVcheck_arena dccheck_arena pmcheck_arena cdcheck_arena ctcheck_arena : Value}
    {odis_ascending anis_ascending : Option Addr} {slis_ascending : Array (Option Value)} {ocis_ascending kVis_ascending dcis_ascending pmis_ascending cdis_ascending ctis_ascending : Value}
    {od_law_draws an_law_draws : Option Addr} {sl_law_draws : Array (Option Value)} {oc_law_draws kV_law_draws dc_law_draws pm_law_draws cd_law_draws ct_law_draws : Value}
    {od_law_take an_law_take : Option Addr} {sl_law_take : Array (Option Value)} {oc_law_take kV_law_take dc_law_take pm_law_take cd_law_take ct_law_take : Value}
    {od_law_cell an_law_cell : Option Addr} {sl_law_cell : Array (Option Value)} {oc_law_cell kV_law_cell dc_law_cell pm_law_cell cd_law_cell ct_law_cell : Value}
    {od_law_option an_law_option : Option Addr} {sl_law_option : Array (Option Value)} {oc_law_option kV_law_option dc_law_option pm_law_option cd_law_option ct_law_option : Value}
    {od_law_arena an_law_arena : Option Addr} {sl_law_arena : Array (Option Value)} {oc_law_arena kV_law_arena dc_law_arena pm_law_arena cd_law_arena ct_law_arena : Value}
    {od_law_class an_law_class : Option Addr} {sl_law_class : Array (Option Value)} {oc_law_class kV_law_class dc_law_class pm_law_class cd_law_class ct_law_class : Value}
    {od_law_only an_law_only : Option Addr} {sl_law_only : Array (Option Value)} {oc_law_only kV_law_only dc_law_only pm_law_only cd_law_only ct_law_only : Value}
    {od_law_disorder an_law_disorder : Option Addr} {sl_law_disorder : Array (Option Value)} {oc_law_disorder kV_law_disorder dc_law_disorder pm_law_disorder cd_law_disorder ct_law_disorder : Value}
    {od_law_wrong_option an_law_wrong_option : Option Addr} {sl_law_wrong_option : Array (Option Value)} {oc_law_wrong_option kV_law_wrong_option dc_law_wrong_option pm_law_wrong_option cd_law_wrong_option ct_law_wrong_option : Value}
    {od_law_checked an_law_checked : Option Addr} {sl_law_checked : Array (Option Value)} {oc_law_checked kV_law_checked dc_law_checked pm_law_checked cd_law_checked ct_law_checked : Value}
    {odlaw anlaw : Option Addr} {sllaw : Array (Option Value)} {oclaw kVlaw dclaw pmlaw cdlaw ctlaw : Value}
    {c_ControlError c_InvalidExpression c_InvalidPlant c_InvalidArena c_InvalidGoal c_BadText c_NoPosition c_Held c_NotHeld c_BadReply c_Lost : Addr}
    (acheck_arena : PySem.W.nsIn K mainGlobals "check_arena" = some (some (.ref fcheck_arena))) (lcheck_arena : K.lookup fcheck_arena = some ⟨occheck_arena, odcheck_arena, .func (PySem.W.fnOf "check_arena" "check_arena" (defArgs scheck_arena) (defBody scheck_arena) (defScope scheck_arena) .none kVcheck_arena dccheck_arena pmcheck_arena ancheck_arena cdcheck_arena ctcheck_arena), slcheck_arena⟩) (ccheck_arena : PySem.W.codeIn K cdcheck_arena "check_arena" = true) (kcheck_arena : PySem.W.keepIn K (.ref fcheck_arena) = true)
    (ais_ascending : PySem.W.nsIn K mainGlobals "is_ascending" = some (some (.ref fis_ascending))) (lis_ascending : K.lookup fis_ascending = some ⟨ocis_ascending, odis_ascending, .func (PySem.W.fnOf "is_ascending" "is_ascending" (defArgs sis_ascending) (defBody sis_ascending) (defScope sis_ascending) .none kVis_ascending dcis_ascending pmis_ascending anis_ascending cdis_ascending ctis_ascending), slis_ascending⟩) (cis_ascending : PySem.W.codeIn K cdis_ascending "is_ascending" = true) (kis_ascending : PySem.W.keepIn K (.ref fis_ascending) = true)
    (a_law_draws : PySem.W.nsIn K mainGlobals "_law_draws" = some (some (.ref f_law_draws))) (l_law_draws : K.lookup f_law_draws = some ⟨oc_law_draws, od_law_draws, .func (PySem.W.fnOf "_law_draws" "_law_draws" (defArgs s_law_draws) (defBody s_law_draws) (defScope s_law_draws) .none kV_law_draws dc_law_draws pm_law_draws an_law_draws cd_law_draws ct_law_draws), sl_law_draws⟩) (c_law_draws : PySem.W.codeIn K cd_law_draws "_law_draws" = true) (k_law_draws : PySem.W.keepIn K (.ref f_law_draws) = true)
    (a_law_take : PySem.W.nsIn K mainGlobals "_law_take" = some (some (.ref f_law_take))) (l_law_take : K.lookup f_law_take = some ⟨oc_law_take, od_law_take, .func (PySem.W.fnOf "_law_take" "_law_take" (defArgs s_law_take) (defBody s_law_take) (defScope s_law_take) .none kV_law_take dc_law_take pm_law_take an_law_take cd_law_take ct_law_take), sl_law_take⟩) (c_law_take : PySem.W.codeIn K cd_law_take "_law_take" = true) (k_law_take : PySem.W.keepIn K (.ref f_law_take) = true)
    (a_law_cell : PySem.W.nsIn K mainGlobals "_law_cell" = some (some (.ref f_law_cell))) (l_law_cell : K.lookup f_law_cell = some ⟨oc_law_cell, od_law_cell, .func (PySem.W.fnOf "_law_cell" "_law_cell" (defArgs s_law_cell) (defBody s_law_cell) (defScope s_law_cell) .none kV_law_cell dc_law_cell pm_law_cell an_law_cell cd_law_cell ct_law_cell), sl_law_cell⟩) (c_law_cell : PySem.W.codeIn K cd_law_cell "_law_cell" = true) (k_law_cell : PySem.W.keepIn K (.ref f_law_cell) = true)
    (a_law_option : PySem.W.nsIn K mainGlobals "_law_option" = some (some (.ref f_law_option))) (l_law_option : K.lookup f_law_option = some ⟨oc_law_option, od_law_option, .func (PySem.W.fnOf "_law_option" "_law_option" (defArgs s_law_option) (defBody s_law_option) (defScope s_law_option) .none kV_law_option dc_law_option pm_law_option an_law_option cd_law_option ct_law_option), sl_law_option⟩) (c_law_option : PySem.W.codeIn K cd_law_option "_law_option" = true) (k_law_option : PySem.W.keepIn K (.ref f_law_option) = true)
    (a_law_arena : PySem.W.nsIn K mainGlobals "_law_arena" = some (some (.ref f_law_arena))) (l_law_arena : K.lookup f_law_arena = some ⟨oc_law_arena, od_law_arena, .func (PySem.W.fnOf "_law_arena" "_law_arena" (defArgs s_law_arena) (defBody s_law_arena) (defScope s_law_arena) .none kV_law_arena dc_law_arena pm_law_arena an_law_arena cd_law_arena ct_law_arena), sl_law_arena⟩) (c_law_arena : PySem.W.codeIn K cd_law_arena "_law_arena" = true) (k_law_arena : PySem.W.keepIn K (.ref f_law_arena) = true)
    (a_law_class : PySem.W.nsIn K mainGlobals "_law_class" = some (some (.ref f_law_class))) (l_law_class : K.lookup f_law_class = some ⟨oc_law_class, od_law_class, .func (PySem.W.fnOf "_law_class" "_law_class" (defArgs s_law_class) (defBody s_law_class) (defScope s_law_class) .none kV_law_class dc_law_class pm_law_class an_law_class cd_law_class ct_law_class), sl_law_class⟩) (c_law_class : PySem.W.codeIn K cd_law_class "_law_class" = true) (k_law_class : PySem.W.keepIn K (.ref f_law_class) = true)
    (a_law_only : PySem.W.nsIn K mainGlobals "_law_only" = some (some (.ref f_law_only))) (l_law_only : K.lookup f_law_only = some ⟨oc_law_only, od_law_only, .func (PySem.W.fnOf "_law_only" "_law_only" (defArgs s_law_only) (defBody s_law_only) (defScope s_law_only) .none kV_law_only dc_law_only pm_law_only an_law_only cd_law_only ct_law_only), sl_law_only⟩) (c_law_only : PySem.W.codeIn K cd_law_only "_law_only" = true) (k_law_only : PySem.W.keepIn K (.ref f_law_only) = true)
    (a_law_disorder : PySem.W.nsIn K mainGlobals "_law_disorder" = some (some (.ref f_law_disorder))) (l_law_disorder : K.lookup f_law_disorder = some ⟨oc_law_disorder, od_law_disorder, .func (PySem.W.fnOf "_law_disorder" "_law_disorder" (defArgs s_law_disorder) (defBody s_law_disorder) (defScope s_law_disorder) .none kV_law_disorder dc_law_disorder pm_law_disorder an_law_disorder cd_law_disorder ct_law_disorder), sl_law_disorder⟩) (c_law_disorder : PySem.W.codeIn K cd_law_disorder "_law_disorder" = true) (k_law_disorder : PySem.W.keepIn K (.ref f_law_disorder) = true)
    (a_law_wrong_option : PySem.W.nsIn K mainGlobals "_law_wrong_option" = some (some (.ref f_law_wrong_option))) (l_law_wrong_option : K.lookup f_law_wrong_option = some ⟨oc_law_wrong_option, od_law_wrong_option, .func (PySem.W.fnOf "_law_wrong_option" "_law_wrong_option" (defArgs s_law_wrong_option) (defBody s_law_wrong_option) (defScope s_law_wrong_option) .none kV_law_wrong_option dc_law_wrong_option pm_law_wrong_option an_law_wrong_option cd_law_wrong_option ct_law_wrong_option), sl_law_wrong_option⟩) (c_law_wrong_option : PySem.W.codeIn K cd_law_wrong_option "_law_wrong_option" = true) (k_law_wrong_option : PySem.W.keepIn K (.ref f_law_wrong_option) = true)
    (a_law_checked : PySem.W.nsIn K mainGlobals "_law_checked" = some (some (.ref f_law_checked))) (l_law_checked : K.lookup f_law_checked = some ⟨oc_law_checked, od_law_checked, .func (PySem.W.fnOf "_law_checked" "_law_checked" (defArgs s_law_checked) (defBody s_law_checked) (defScope s_law_checked) .none kV_law_checked dc_law_checked pm_law_checked an_law_checked cd_law_checked ct_law_checked), sl_law_checked⟩) (c_law_checked : PySem.W.codeIn K cd_law_checked "_law_checked" = true) (k_law_checked : PySem.W.keepIn K (.ref f_law_checked) = true)
    (alaw : PySem.W.nsIn K mainGlobals "law" = some (some (.ref flaw))) (llaw : K.lookup flaw = some ⟨oclaw, odlaw, .func (PySem.W.fnOf "law" "law" (defArgs slaw) (defBody slaw) (defScope slaw) .none kVlaw dclaw pmlaw anlaw cdlaw ctlaw), sllaw⟩) (claw : PySem.W.codeIn K cdlaw "law" = true) (klaw : PySem.W.keepIn K (.ref flaw) = true)
    (g_ControlError : PySem.W.nsIn K mainGlobals "ControlError" = some (some (.ref c_ControlError)))
    (g_InvalidExpression : PySem.W.nsIn K mainGlobals "InvalidExpression" = some (some (.ref c_InvalidExpression)))
    (g_InvalidPlant : PySem.W.nsIn K mainGlobals "InvalidPlant" = some (some (.ref c_InvalidPlant)))
    (g_InvalidArena : PySem.W.nsIn K mainGlobals "InvalidArena" = some (some (.ref c_InvalidArena)))
    (g_InvalidGoal : PySem.W.nsIn K mainGlobals "InvalidGoal" = some (some (.ref c_InvalidGoal)))
    (g_BadText : PySem.W.nsIn K mainGlobals "BadText" = some (some (.ref c_BadText)))
    (g_NoPosition : PySem.W.nsIn K mainGlobals "NoPosition" = some (some (.ref c_NoPosition)))
    (g_Held : PySem.W.nsIn K mainGlobals "Held" = some (some (.ref c_Held)))
    (g_NotHeld : PySem.W.nsIn K mainGlobals "NotHeld" = some (some (.ref c_NotHeld)))
    (g_BadReply : PySem.W.nsIn K mainGlobals "BadReply" = some (some (.ref c_BadReply)))
    (g_Lost : PySem.W.nsIn K mainGlobals "Lost" = some (some (.ref c_Lost)))
    (ex_x : PySem.W.excIn K c_InvalidArena [.type "ValueError", .type "Exception", .type "BaseException", .type "object"] "ValueError.__new__" = true) (ex_k : PySem.W.keepIn K (.ref c_InvalidArena) = true) (ex_b : PySem.W.subIn K (.ref c_InvalidArena) (.type "BaseException") = some true) (ex_sV : PySem.W.subIn K (.ref c_InvalidArena) (.type "ValueError") = some true) (ex_bC : PySem.W.subIn K (.ref c_ControlError) (.type "BaseException") = some true)
    (ex_hg : PySem.W.findIn K (.ref c_InvalidArena) "__getattribute__" = some (some (.builtin "BaseException.__getattribute__"))) (ex_hk : PySem.W.findIn K (.ref c_InvalidArena) "__getattr__" = some none) (ex_hd : PySem.W.hasDictIn K c_InvalidArena = true) (ex_ha : PySem.W.findIn K (.ref c_InvalidArena) "__class__" = some (some (.builtin "object.__class__"))) (ex_hn : PySem.W.specialIn K (.builtin "object.__class__") "__get__" = some (some (.builtin "getset_descriptor.__get__"))) (ex_ht : PySem.W.takesIn K (.builtin "object.__class__") = some true) (ex_hm : PySem.W.mroIn K c_InvalidArena (.type "object") = some true)
    (i_ControlError : PySem.W.isClsIn K c_ControlError = true) (t_ControlError : PySem.W.typeIn K (.ref c_ControlError) = some (.type "type")) (s_ControlError : PySem.W.subIn K (.ref c_InvalidArena) (.ref c_ControlError) = some true)
    (i_InvalidExpression : PySem.W.isClsIn K c_InvalidExpression = true) (t_InvalidExpression : PySem.W.typeIn K (.ref c_InvalidExpression) = some (.type "type")) (s_InvalidExpression : PySem.W.subIn K (.ref c_InvalidArena) (.ref c_InvalidExpression) = some false)
    (i_InvalidPlant : PySem.W.isClsIn K c_InvalidPlant = true) (t_InvalidPlant : PySem.W.typeIn K (.ref c_InvalidPlant) = some (.type "type")) (s_InvalidPlant : PySem.W.subIn K (.ref c_InvalidArena) (.ref c_InvalidPlant) = some false)
    (i_InvalidArena : PySem.W.isClsIn K c_InvalidArena = true) (t_InvalidArena : PySem.W.typeIn K (.ref c_InvalidArena) = some (.type "type")) (s_InvalidArena : PySem.W.subIn K (.ref c_InvalidArena) (.ref c_InvalidArena) = some true)
    (i_InvalidGoal : PySem.W.isClsIn K c_InvalidGoal = true) (t_InvalidGoal : PySem.W.typeIn K (.ref c_InvalidGoal) = some (.type "type")) (s_InvalidGoal : PySem.W.subIn K (.ref c_InvalidArena) (.ref c_InvalidGoal) = some false)
    (i_BadText : PySem.W.isClsIn K c_BadText = true) (t_BadText : PySem.W.typeIn K (.ref c_BadText) = some (.type "type")) (s_BadText : PySem.W.subIn K (.ref c_InvalidArena) (.ref c_BadText) = some false)
    (i_NoPosition : PySem.W.isClsIn K c_NoPosition = true) (t_NoPosition : PySem.W.typeIn K (.ref c_NoPosition) = some (.type "type")) (s_NoPosition : PySem.W.subIn K (.ref c_InvalidArena) (.ref c_NoPosition) = some false)
    (i_Held : PySem.W.isClsIn K c_Held = true) (t_Held : PySem.W.typeIn K (.ref c_Held) = some (.type "type")) (s_Held : PySem.W.subIn K (.ref c_InvalidArena) (.ref c_Held) = some false)
    (i_NotHeld : PySem.W.isClsIn K c_NotHeld = true) (t_NotHeld : PySem.W.typeIn K (.ref c_NotHeld) = some (.type "type")) (s_NotHeld : PySem.W.subIn K (.ref c_InvalidArena) (.ref c_NotHeld) = some false)
    (i_BadReply : PySem.W.isClsIn K c_BadReply = true) (t_BadReply : PySem.W.typeIn K (.ref c_BadReply) = some (.type "type")) (s_BadReply : PySem.W.subIn K (.ref c_InvalidArena) (.ref c_BadReply) = some false)
    (i_Lost : PySem.W.isClsIn K c_Lost = true) (t_Lost : PySem.W.typeIn K (.ref c_Lost) = some (.type "type")) (s_Lost : PySem.W.subIn K (.ref c_InvalidArena) (.ref c_Lost) = some false)
    (z_ValueError : PySem.W.nsIn K mainGlobals "ValueError" = some none)
    (z_abs : PySem.W.nsIn K mainGlobals "abs" = some none)
    (z_int : PySem.W.nsIn K mainGlobals "int" = some none)
    (z_isinstance : PySem.W.nsIn K mainGlobals "isinstance" = some none)
    (z_len : PySem.W.nsIn K mainGlobals "len" = some none)
    (z_list : PySem.W.nsIn K mainGlobals "list" = some none)
    (z_max : PySem.W.nsIn K mainGlobals "max" = some none)
    (z_range : PySem.W.nsIn K mainGlobals "range" = some none)
    (z_set : PySem.W.nsIn K mainGlobals "set" = some none)
    (z_sorted : PySem.W.nsIn K mainGlobals "sorted" = some none)
    (z_tuple : PySem.W.nsIn K mainGlobals "tuple" = some none)
    : ∃ fd : FuncData, (∀ (s : Shared) (v : Value), BindsTo s fd ⟨[v], []⟩ [("script", v)]) ∧ ∀ base : Heap, K.In base → base.Ns mainGlobals mg → FnOk l.prog w K mg base CX0 5 fa fd ["script"] (spLaw K) := by
  have e := hfa.symm.trans (PySem.W.mg_of X G alaw)
  cases e
  let T : Txt K mg := {
    z_ValueError := PySem.W.mg_none_of X G z_ValueError
    z_abs := PySem.W.mg_none_of X G z_abs
    z_int := PySem.W.mg_none_of X G z_int
    z_isinstance := PySem.W.mg_none_of X G z_isinstance
    z_len := PySem.W.mg_none_of X G z_len
    z_list := PySem.W.mg_none_of X G z_list
    z_max := PySem.W.mg_none_of X G z_max
    z_range := PySem.W.mg_none_of X G z_range
    z_set := PySem.W.mg_none_of X G z_set
    z_sorted := PySem.W.mg_none_of X G z_sorted
    z_tuple := PySem.W.mg_none_of X G z_tuple
    acheck_arena := fcheck_arena
    dcheck_arena := _
    Fcheck_arena := fun_mk (st := scheck_arena) lcheck_arena ccheck_arena kcheck_arena
    mcheck_arena := PySem.W.mg_of X G acheck_arena
    ais_ascending := fis_ascending
    dis_ascending := _
    Fis_ascending := fun_mk (st := sis_ascending) lis_ascending cis_ascending kis_ascending
    mis_ascending := PySem.W.mg_of X G ais_ascending
    a_law_draws := f_law_draws
    d_law_draws := _
    F_law_draws := fun_mk (st := s_law_draws) l_law_draws c_law_draws k_law_draws
    m_law_draws := PySem.W.mg_of X G a_law_draws
    a_law_take := f_law_take
    d_law_take := _
    F_law_take := fun_mk (st := s_law_take) l_law_take c_law_take k_law_take
    m_law_take := PySem.W.mg_of X G a_law_take
    a_law_cell := f_law_cell
    d_law_cell := _
    F_law_cell := fun_mk (st := s_law_cell) l_law_cell c_law_cell k_law_cell
    m_law_cell := PySem.W.mg_of X G a_law_cell
    a_law_option := f_law_option
    d_law_option := _
    F_law_option := fun_mk (st := s_law_option) l_law_option c_law_option k_law_option
    m_law_option := PySem.W.mg_of X G a_law_option
    a_law_arena := f_law_arena
    d_law_arena := _
    F_law_arena := fun_mk (st := s_law_arena) l_law_arena c_law_arena k_law_arena
    m_law_arena := PySem.W.mg_of X G a_law_arena
    a_law_class := f_law_class
    d_law_class := _
    F_law_class := fun_mk (st := s_law_class) l_law_class c_law_class k_law_class
    m_law_class := PySem.W.mg_of X G a_law_class
    a_law_only := f_law_only
    d_law_only := _
    F_law_only := fun_mk (st := s_law_only) l_law_only c_law_only k_law_only
    m_law_only := PySem.W.mg_of X G a_law_only
    a_law_disorder := f_law_disorder
    d_law_disorder := _
    F_law_disorder := fun_mk (st := s_law_disorder) l_law_disorder c_law_disorder k_law_disorder
    m_law_disorder := PySem.W.mg_of X G a_law_disorder
    a_law_wrong_option := f_law_wrong_option
    d_law_wrong_option := _
    F_law_wrong_option := fun_mk (st := s_law_wrong_option) l_law_wrong_option c_law_wrong_option k_law_wrong_option
    m_law_wrong_option := PySem.W.mg_of X G a_law_wrong_option
    a_law_checked := f_law_checked
    d_law_checked := _
    F_law_checked := fun_mk (st := s_law_checked) l_law_checked c_law_checked k_law_checked
    m_law_checked := PySem.W.mg_of X G a_law_checked
    alaw := fa
    dlaw := _
    Flaw := fun_mk (st := slaw) llaw claw klaw
    mlaw := PySem.W.mg_of X G alaw }
  refine ⟨T.dlaw, fun s v => .of_eq rfl, fun base _ _ => ?_⟩
  let EX : Exs K mg := {
    c_ControlError := c_ControlError
    g_ControlError := PySem.W.mg_of X G g_ControlError
    c_InvalidExpression := c_InvalidExpression
    g_InvalidExpression := PySem.W.mg_of X G g_InvalidExpression
    c_InvalidPlant := c_InvalidPlant
    g_InvalidPlant := PySem.W.mg_of X G g_InvalidPlant
    c_InvalidArena := c_InvalidArena
    g_InvalidArena := PySem.W.mg_of X G g_InvalidArena
    c_InvalidGoal := c_InvalidGoal
    g_InvalidGoal := PySem.W.mg_of X G g_InvalidGoal
    c_BadText := c_BadText
    g_BadText := PySem.W.mg_of X G g_BadText
    c_NoPosition := c_NoPosition
    g_NoPosition := PySem.W.mg_of X G g_NoPosition
    c_Held := c_Held
    g_Held := PySem.W.mg_of X G g_Held
    c_NotHeld := c_NotHeld
    g_NotHeld := PySem.W.mg_of X G g_NotHeld
    c_BadReply := c_BadReply
    g_BadReply := PySem.W.mg_of X G g_BadReply
    c_Lost := c_Lost
    g_Lost := PySem.W.mg_of X G g_Lost
    x := ex_x
    k := ex_k
    b := ex_b
    sV := ex_sV
    bC := ex_bC
    ec := ⟨ex_hg, ex_hk, ex_b, ex_hd, ex_ha, ex_hn, ex_ht, ex_hm⟩
    i_ControlError := i_ControlError
    t_ControlError := t_ControlError
    s_ControlError := s_ControlError
    i_InvalidExpression := i_InvalidExpression
    t_InvalidExpression := t_InvalidExpression
    s_InvalidExpression := s_InvalidExpression
    i_InvalidPlant := i_InvalidPlant
    t_InvalidPlant := t_InvalidPlant
    s_InvalidPlant := s_InvalidPlant
    i_InvalidArena := i_InvalidArena
    t_InvalidArena := t_InvalidArena
    s_InvalidArena := s_InvalidArena
    i_InvalidGoal := i_InvalidGoal
    t_InvalidGoal := t_InvalidGoal
    s_InvalidGoal := s_InvalidGoal
    i_BadText := i_BadText
    t_BadText := t_BadText
    s_BadText := s_BadText
    i_NoPosition := i_NoPosition
    t_NoPosition := t_NoPosition
    s_NoPosition := s_NoPosition
    i_Held := i_Held
    t_Held := t_Held
    s_Held := s_Held
    i_NotHeld := i_NotHeld
    t_NotHeld := t_NotHeld
    s_NotHeld := s_NotHeld
    i_BadReply := i_BadReply
    t_BadReply := t_BadReply
    s_BadReply := s_BadReply
    i_Lost := i_Lost
    t_Lost := t_Lost
    s_Lost := s_Lost }
  exact ok_law T EX
end NL
open PySem PySem.W PyProof.Rows
set_option maxRecDepth 100000 in
set_option maxHeartbeats 0 in
theorem PySem.Challenge.cw_neverleaves_k40_right_arenas_holds : PySem.Challenge.rw_neverleaves_k40_right_arenas.Holds := by
  w_on; o_law; k_head; (case hw => w_witness2)
  k_fill
  refine L2.walk_of (l := PySem.Challenge.rw_neverleaves_k40_right_arenas) (n := 63) (k := 5) (x := "script") (CX := fun _ => L2.CX0) (sp := fun w => NL.spLaw _) rfl (by decide) rfl ⟨rfl, by decide, by decide⟩ (fun w h Y => PySem.W.kIn_of Y) ?F (fun _ _ a ns hl _ hS => ⟨a, ns, rfl, hS, hl, fun _ => rfl⟩) (fun _ _ _ _ _ h => h)
  case F =>
    intro w mg fa h KX G hmg
    refine' NL.all_mk KX G hmg ?acheck_arena ?lcheck_arena ?ccheck_arena ?kcheck_arena ?ais_ascending ?lis_ascending ?cis_ascending ?kis_ascending ?a_law_draws ?l_law_draws ?c_law_draws ?k_law_draws ?a_law_take ?l_law_take ?c_law_take ?k_law_take ?a_law_cell ?l_law_cell ?c_law_cell ?k_law_cell ?a_law_option ?l_law_option ?c_law_option ?k_law_option ?a_law_arena ?l_law_arena ?c_law_arena ?k_law_arena ?a_law_class ?l_law_class ?c_law_class ?k_law_class ?a_law_only ?l_law_only ?c_law_only ?k_law_only ?a_law_disorder ?l_law_disorder ?c_law_disorder ?k_law_disorder ?a_law_wrong_option ?l_law_wrong_option ?c_law_wrong_option ?k_law_wrong_option ?a_law_checked ?l_law_checked ?c_law_checked ?k_law_checked ?alaw ?llaw ?claw ?klaw ?g_ControlError ?g_InvalidExpression ?g_InvalidPlant ?g_InvalidArena ?g_InvalidGoal ?g_BadText ?g_NoPosition ?g_Held ?g_NotHeld ?g_BadReply ?g_Lost ?ex_x ?ex_k ?ex_b ?ex_sV ?ex_bC ?ex_hg ?ex_hk ?ex_hd ?ex_ha ?ex_hn ?ex_ht ?ex_hm ?i_ControlError ?t_ControlError ?s_ControlError ?i_InvalidExpression ?t_InvalidExpression ?s_InvalidExpression ?i_InvalidPlant ?t_InvalidPlant ?s_InvalidPlant ?i_InvalidArena ?t_InvalidArena ?s_InvalidArena ?i_InvalidGoal ?t_InvalidGoal ?s_InvalidGoal ?i_BadText ?t_BadText ?s_BadText ?i_NoPosition ?t_NoPosition ?s_NoPosition ?i_Held ?t_Held ?s_Held ?i_NotHeld ?t_NotHeld ?s_NotHeld ?i_BadReply ?t_BadReply ?s_BadReply ?i_Lost ?t_Lost ?s_Lost ?z_ValueError ?z_abs ?z_int ?z_isinstance ?z_len ?z_list ?z_max ?z_range ?z_set ?z_sorted ?z_tuple
    (case acheck_arena => k_is); (case lcheck_arena => k_is); (case ccheck_arena => k_is); (case kcheck_arena => k_is)
    (case ais_ascending => k_is); (case lis_ascending => k_is); (case cis_ascending => k_is); (case kis_ascending => k_is)
    (case a_law_draws => k_is); (case l_law_draws => k_is); (case c_law_draws => k_is); (case k_law_draws => k_is)
    (case a_law_take => k_is); (case l_law_take => k_is); (case c_law_take => k_is); (case k_law_take => k_is)
    (case a_law_cell => k_is); (case l_law_cell => k_is); (case c_law_cell => k_is); (case k_law_cell => k_is)
    (case a_law_option => k_is); (case l_law_option => k_is); (case c_law_option => k_is); (case k_law_option => k_is)
    (case a_law_arena => k_is); (case l_law_arena => k_is); (case c_law_arena => k_is); (case k_law_arena => k_is)
    (case a_law_class => k_is); (case l_law_class => k_is); (case c_law_class => k_is); (case k_law_class => k_is)
    (case a_law_only => k_is); (case l_law_only => k_is); (case c_law_only => k_is); (case k_law_only => k_is)
    (case a_law_disorder => k_is); (case l_law_disorder => k_is); (case c_law_disorder => k_is); (case k_law_disorder => k_is)
    (case a_law_wrong_option => k_is); (case l_law_wrong_option => k_is); (case c_law_wrong_option => k_is); (case k_law_wrong_option => k_is)
    (case a_law_checked => k_is); (case l_law_checked => k_is); (case c_law_checked => k_is); (case k_law_checked => k_is)
    (case alaw => k_is); (case llaw => k_is); (case claw => k_is); (case klaw => k_is)
    (case g_ControlError => k_is)
    (case g_InvalidExpression => k_is)
    (case g_InvalidPlant => k_is)
    (case g_InvalidArena => k_is)
    (case g_InvalidGoal => k_is)
    (case g_BadText => k_is)
    (case g_NoPosition => k_is)
    (case g_Held => k_is)
    (case g_NotHeld => k_is)
    (case g_BadReply => k_is)
    (case g_Lost => k_is)
    (case i_ControlError => k_is); (case t_ControlError => k_is); (case s_ControlError => first | rfl | k_is)
    (case i_InvalidExpression => k_is); (case t_InvalidExpression => k_is); (case s_InvalidExpression => first | rfl | k_is)
    (case i_InvalidPlant => k_is); (case t_InvalidPlant => k_is); (case s_InvalidPlant => first | rfl | k_is)
    (case i_InvalidArena => k_is); (case t_InvalidArena => k_is); (case s_InvalidArena => first | rfl | k_is)
    (case i_InvalidGoal => k_is); (case t_InvalidGoal => k_is); (case s_InvalidGoal => first | rfl | k_is)
    (case i_BadText => k_is); (case t_BadText => k_is); (case s_BadText => first | rfl | k_is)
    (case i_NoPosition => k_is); (case t_NoPosition => k_is); (case s_NoPosition => first | rfl | k_is)
    (case i_Held => k_is); (case t_Held => k_is); (case s_Held => first | rfl | k_is)
    (case i_NotHeld => k_is); (case t_NotHeld => k_is); (case s_NotHeld => first | rfl | k_is)
    (case i_BadReply => k_is); (case t_BadReply => k_is); (case s_BadReply => first | rfl | k_is)
    (case i_Lost => k_is); (case t_Lost => k_is); (case s_Lost => first | rfl | k_is)
    (case ex_x => k_exc)
    (case ex_k => k_is); (case ex_b => k_is); (case ex_sV => k_is); (case ex_bC => k_is); (case ex_hg => k_is); (case ex_hk => k_is); (case ex_hd => k_is); (case ex_ha => k_is); (case ex_hn => first | rfl | decide +kernel | k_is); (case ex_ht => first | rfl | decide +kernel | k_is); (case ex_hm => k_is)
    (case z_ValueError => k_is)
    (case z_abs => k_is)
    (case z_int => k_is)
    (case z_isinstance => k_is)
    (case z_len => k_is)
    (case z_list => k_is)
    (case z_max => k_is)
    (case z_range => k_is)
    (case z_set => k_is)
    (case z_sorted => k_is)
    (case z_tuple => k_is)
