import PyProof.Rows.All
import Wide.All
import OpenK.AllK
import Wide.FinOn
import HandS.ForExc
import HandS.ForMost
import HandS.TupAny
import HandS.IsInst
import HandS.Codes
import HandS.FStr
import HandS.Zip
import HandS.TupSets
import HandS.SetFor
import HandS.Strs
import HandS.More
import HandS.DictComp
import HandS.Walk
import HandS.Conv
import HandS.TupMul
import HandS.SortKw
import KE.DataMinMax
import KE.KxIndex
import PySem.Challenge.RW_neverleaves_k97_whole_credits_of_strateg
set_option Elab.async false
set_option linter.all false
set_option maxRecDepth 100000

namespace NL
open PySem PySem.Spec PyProof.Rows L2
def topS (i : Nat) : Stmt := PySem.Challenge.pw_neverleaves_k97_whole_credits_of_strateg.main.body.getD i (.Pass ⟨0, 0, 0, 0⟩)
abbrev svalues_of_rows : Stmt := topS 1
abbrev Nvalues_of_rows : List Str := ["rows", "given_up", "values", "order", "_", "changed", "at", "value", "after", "gain", "option"]
abbrev Pvalues_of_rows : List Str := ["rows", "given_up"]
theorem scvalues_of_rows : FnScope Nvalues_of_rows Pvalues_of_rows (defScope svalues_of_rows) := ⟨rfl, rfl, rfl, by decide +kernel, rfl, by decide +kernel, by decide +kernel⟩
abbrev s_successors_by : Stmt := topS 3
abbrev N_successors_by : List Str := ["arena", "strategy", "index", "options"]
abbrev P_successors_by : List Str := ["arena", "strategy"]
theorem sc_successors_by : FnScope N_successors_by P_successors_by (defScope s_successors_by) := ⟨rfl, rfl, rfl, by decide +kernel, rfl, by decide +kernel, by decide +kernel⟩
abbrev s_least_rows : Stmt := topS 4
abbrev N_least_rows : List Str := ["successors", "starts", "rows", "start", "waiting", "found", "place", "after"]
abbrev P_least_rows : List Str := ["successors", "starts"]
theorem sc_least_rows : FnScope N_least_rows P_least_rows (defScope s_least_rows) := ⟨rfl, rfl, rfl, by decide +kernel, rfl, by decide +kernel, by decide +kernel⟩
abbrev sstrategy_credit : Stmt := topS 5
abbrev Nstrategy_credit : List Str := ["arena", "gains", "strategy", "start", "successors", "met", "place", "rows", "_", "values"]
abbrev Pstrategy_credit : List Str := ["arena", "gains", "strategy", "start"]
theorem scstrategy_credit : FnScope Nstrategy_credit Pstrategy_credit (defScope sstrategy_credit) := ⟨rfl, rfl, rfl, by decide +kernel, rfl, by decide +kernel, by decide +kernel⟩
abbrev s_law_draws : Stmt := topS 7
abbrev N_law_draws : List Str := ["script", "many", "cells", "cell", "rest", "draws", "k", "at", "once"]
abbrev P_law_draws : List Str := ["script", "many"]
theorem sc_law_draws : FnScope N_law_draws P_law_draws (defScope s_law_draws) := ⟨rfl, rfl, rfl, by decide +kernel, rfl, by decide +kernel, by decide +kernel⟩
abbrev s_law_take : Stmt := topS 8
abbrev N_law_take : List Str := ["draws", "many"]
abbrev P_law_take : List Str := ["draws", "many"]
theorem sc_law_take : FnScope N_law_take P_law_take (defScope s_law_take) := ⟨rfl, rfl, rfl, by decide +kernel, rfl, by decide +kernel, by decide +kernel⟩
abbrev s_law_great : Stmt := topS 9
abbrev N_law_great : List Str := ["draws", "size", "a", "b", "c", "bad", "arena", "k", "options"]
abbrev P_law_great : List Str := ["draws"]
theorem sc_law_great : FnScope N_law_great P_law_great (defScope s_law_great) := ⟨rfl, rfl, rfl, by decide +kernel, rfl, by decide +kernel, by decide +kernel⟩
abbrev s_law_arena : Stmt := topS 10
abbrev N_law_arena : List Str := ["draws", "most", "shape", "rare", "menu", "count", "arena", "k", "options", "j", "found", "i", "drawn", "successor", "at", "more"]
abbrev P_law_arena : List Str := ["draws", "most"]
theorem sc_law_arena : FnScope N_law_arena P_law_arena (defScope s_law_arena) := ⟨rfl, rfl, rfl, by decide +kernel, rfl, by decide +kernel, by decide +kernel⟩
abbrev s_law_strategy : Stmt := topS 11
abbrev N_law_strategy : List Str := ["draws", "arena", "first", "step", "rare", "plain", "found", "k", "number"]
abbrev P_law_strategy : List Str := ["draws", "arena"]
theorem sc_law_strategy : FnScope N_law_strategy P_law_strategy (defScope s_law_strategy) := ⟨rfl, rfl, rfl, by decide +kernel, rfl, by decide +kernel, by decide +kernel⟩
abbrev s_law_goal : Stmt := topS 12
abbrev N_law_goal : List Str := ["draws", "arena", "kind", "first", "step", "most", "k", "gains", "j"]
abbrev P_law_goal : List Str := ["draws", "arena", "kind"]
theorem sc_law_goal : FnScope N_law_goal P_law_goal (defScope s_law_goal) := ⟨rfl, rfl, rfl, by decide +kernel, rfl, by decide +kernel, by decide +kernel⟩
abbrev s_law_some : Stmt := topS 13
abbrev N_law_some : List Str := ["draws", "arena", "share", "step", "first", "k"]
abbrev P_law_some : List Str := ["draws", "arena", "share"]
theorem sc_law_some : FnScope N_law_some P_law_some (defScope s_law_some) := ⟨rfl, rfl, rfl, by decide +kernel, rfl, by decide +kernel, by decide +kernel⟩
abbrev s_law_same : Stmt := topS 14
abbrev N_law_same : List Str := ["actual", "due", "k"]
abbrev P_law_same : List Str := ["actual", "due"]
theorem sc_law_same : FnScope N_law_same P_law_same (defScope s_law_same) := ⟨rfl, rfl, rfl, by decide +kernel, rfl, by decide +kernel, by decide +kernel⟩
abbrev s_law_reached : Stmt := topS 15
abbrev N_law_reached : List Str := ["arena", "strategy", "start", "found", "k", "reply"]
abbrev P_law_reached : List Str := ["arena", "strategy", "start"]
theorem sc_law_reached : FnScope N_law_reached P_law_reached (defScope s_law_reached) := ⟨rfl, rfl, rfl, by decide +kernel, rfl, by decide +kernel, by decide +kernel⟩
abbrev s_law_losses : Stmt := topS 16
abbrev N_law_losses : List Str := ["arena", "gains", "strategy", "reached", "levels", "position", "k", "losses", "at", "gain", "reply"]
abbrev P_law_losses : List Str := ["arena", "gains", "strategy", "reached"]
theorem sc_law_losses : FnScope N_law_losses P_law_losses (defScope s_law_losses) := ⟨rfl, rfl, rfl, by decide +kernel, rfl, by decide +kernel, by decide +kernel⟩
abbrev s_law_is_emptied : Stmt := topS 17
abbrev N_law_is_emptied : List Str := ["arena", "gains", "strategy", "start", "levels", "credit", "at", "left", "most", "reply"]
abbrev P_law_is_emptied : List Str := ["arena", "gains", "strategy", "start", "levels", "credit"]
theorem sc_law_is_emptied : FnScope N_law_is_emptied P_law_is_emptied (defScope s_law_is_emptied) := ⟨rfl, rfl, rfl, by decide +kernel, rfl, by decide +kernel, by decide +kernel⟩
abbrev s_law_is_long_right : Stmt := topS 18
abbrev N_law_is_long_right : List Str := ["draws", "size", "kind", "loss", "last", "arena", "k", "gains", "due"]
abbrev P_law_is_long_right : List Str := ["draws"]
theorem sc_law_is_long_right : FnScope N_law_is_long_right P_law_is_long_right (defScope s_law_is_long_right) := ⟨rfl, rfl, rfl, by decide +kernel, rfl, by decide +kernel, by decide +kernel⟩
abbrev slaw : Stmt := topS 19
abbrev Nlaw : List Str := ["script", "draws", "arena", "scale", "gains", "gain", "row", "strategy", "many", "k", "start", "actual", "reached", "due", "at", "levels"]
abbrev Plaw : List Str := ["script"]
theorem sclaw : FnScope Nlaw Plaw (defScope slaw) := ⟨rfl, rfl, rfl, by decide +kernel, rfl, by decide +kernel, by decide +kernel⟩
def KT (K : PySem.W.Frag) (a : Addr) (ys : List V) : Prop := ∃ o its n, List.lookup a K = some o ∧ o.cls = .type "tuple" ∧ o.data = .seq its n ∧ its.size ≤ sizeLine ∧ L2.Vals ys its.toList
theorem kt_mk {K : PySem.W.Frag} {a : Addr} {ys : List V} {o : Obj} {its : Array Value} {n : Nat} (h1 : List.lookup a K = some o) (h2 : o.cls = .type "tuple") (h3 : o.data = .seq its n) (h4 : its.size ≤ sizeLine) (h5 : L2.Vals ys its.toList) : KT K a ys := ⟨o, its, n, h1, h2, h3, h4, h5⟩
set_option genInjectivity false in
set_option genSizeOfSpec false in
structure Txt (K : PySem.W.Frag) (mg : Str → Option Value) where
  z_any : mg "any" = none
  z_bool : mg "bool" = none
  z_int : mg "int" = none
  z_isinstance : mg "isinstance" = none
  z_len : mg "len" = none
  z_list : mg "list" = none
  z_max : mg "max" = none
  z_min : mg "min" = none
  z_range : mg "range" = none
  z_set : mg "set" = none
  z_sorted : mg "sorted" = none
  z_str : mg "str" = none
  z_tuple : mg "tuple" = none
  z_zip : mg "zip" = none
  avalues_of_rows : Addr
  dvalues_of_rows : FuncData
  Fvalues_of_rows : Fun K "values_of_rows" "values_of_rows" svalues_of_rows avalues_of_rows dvalues_of_rows
  mvalues_of_rows : mg "values_of_rows" = some (.ref avalues_of_rows)
  a_successors_by : Addr
  d_successors_by : FuncData
  F_successors_by : Fun K "_successors_by" "_successors_by" s_successors_by a_successors_by d_successors_by
  m_successors_by : mg "_successors_by" = some (.ref a_successors_by)
  a_least_rows : Addr
  d_least_rows : FuncData
  F_least_rows : Fun K "_least_rows" "_least_rows" s_least_rows a_least_rows d_least_rows
  m_least_rows : mg "_least_rows" = some (.ref a_least_rows)
  astrategy_credit : Addr
  dstrategy_credit : FuncData
  Fstrategy_credit : Fun K "strategy_credit" "strategy_credit" sstrategy_credit astrategy_credit dstrategy_credit
  mstrategy_credit : mg "strategy_credit" = some (.ref astrategy_credit)
  a_law_draws : Addr
  d_law_draws : FuncData
  F_law_draws : Fun K "_law_draws" "_law_draws" s_law_draws a_law_draws d_law_draws
  m_law_draws : mg "_law_draws" = some (.ref a_law_draws)
  a_law_take : Addr
  d_law_take : FuncData
  F_law_take : Fun K "_law_take" "_law_take" s_law_take a_law_take d_law_take
  m_law_take : mg "_law_take" = some (.ref a_law_take)
  a_law_great : Addr
  d_law_great : FuncData
  F_law_great : Fun K "_law_great" "_law_great" s_law_great a_law_great d_law_great
  m_law_great : mg "_law_great" = some (.ref a_law_great)
  a_law_arena : Addr
  d_law_arena : FuncData
  F_law_arena : Fun K "_law_arena" "_law_arena" s_law_arena a_law_arena d_law_arena
  m_law_arena : mg "_law_arena" = some (.ref a_law_arena)
  a_law_strategy : Addr
  d_law_strategy : FuncData
  F_law_strategy : Fun K "_law_strategy" "_law_strategy" s_law_strategy a_law_strategy d_law_strategy
  m_law_strategy : mg "_law_strategy" = some (.ref a_law_strategy)
  a_law_goal : Addr
  d_law_goal : FuncData
  F_law_goal : Fun K "_law_goal" "_law_goal" s_law_goal a_law_goal d_law_goal
  m_law_goal : mg "_law_goal" = some (.ref a_law_goal)
  a_law_some : Addr
  d_law_some : FuncData
  F_law_some : Fun K "_law_some" "_law_some" s_law_some a_law_some d_law_some
  m_law_some : mg "_law_some" = some (.ref a_law_some)
  a_law_same : Addr
  d_law_same : FuncData
  F_law_same : Fun K "_law_same" "_law_same" s_law_same a_law_same d_law_same
  m_law_same : mg "_law_same" = some (.ref a_law_same)
  a_law_reached : Addr
  d_law_reached : FuncData
  F_law_reached : Fun K "_law_reached" "_law_reached" s_law_reached a_law_reached d_law_reached
  m_law_reached : mg "_law_reached" = some (.ref a_law_reached)
  a_law_losses : Addr
  d_law_losses : FuncData
  F_law_losses : Fun K "_law_losses" "_law_losses" s_law_losses a_law_losses d_law_losses
  m_law_losses : mg "_law_losses" = some (.ref a_law_losses)
  a_law_is_emptied : Addr
  d_law_is_emptied : FuncData
  F_law_is_emptied : Fun K "_law_is_emptied" "_law_is_emptied" s_law_is_emptied a_law_is_emptied d_law_is_emptied
  m_law_is_emptied : mg "_law_is_emptied" = some (.ref a_law_is_emptied)
  a_law_is_long_right : Addr
  d_law_is_long_right : FuncData
  F_law_is_long_right : Fun K "_law_is_long_right" "_law_is_long_right" s_law_is_long_right a_law_is_long_right d_law_is_long_right
  m_law_is_long_right : mg "_law_is_long_right" = some (.ref a_law_is_long_right)
  alaw : Addr
  dlaw : FuncData
  Flaw : Fun K "law" "law" slaw alaw dlaw
  mlaw : mg "law" = some (.ref alaw)
theorem Txt.bvalues_of_rows {K : PySem.W.Frag} {mg : Str → Option Value} (T : Txt K mg) : Binds K T.dvalues_of_rows Pvalues_of_rows [] := T.Fvalues_of_rows.binds fun _ _ _ _ _ _ us hl => match us, hl with | [_, _], _ => rfl
theorem Txt.b_successors_by {K : PySem.W.Frag} {mg : Str → Option Value} (T : Txt K mg) : Binds K T.d_successors_by P_successors_by [] := T.F_successors_by.binds fun _ _ _ _ _ _ us hl => match us, hl with | [_, _], _ => rfl
theorem Txt.b_least_rows {K : PySem.W.Frag} {mg : Str → Option Value} (T : Txt K mg) : Binds K T.d_least_rows P_least_rows [] := T.F_least_rows.binds fun _ _ _ _ _ _ us hl => match us, hl with | [_, _], _ => rfl
theorem Txt.bstrategy_credit {K : PySem.W.Frag} {mg : Str → Option Value} (T : Txt K mg) : Binds K T.dstrategy_credit Pstrategy_credit [] := T.Fstrategy_credit.binds fun _ _ _ _ _ _ us hl => match us, hl with | [_, _, _, _], _ => rfl
theorem Txt.b_law_draws {K : PySem.W.Frag} {mg : Str → Option Value} (T : Txt K mg) : Binds K T.d_law_draws P_law_draws [] := T.F_law_draws.binds fun _ _ _ _ _ _ us hl => match us, hl with | [_, _], _ => rfl
theorem Txt.b_law_take {K : PySem.W.Frag} {mg : Str → Option Value} (T : Txt K mg) : Binds K T.d_law_take P_law_take [] := T.F_law_take.binds fun _ _ _ _ _ _ us hl => match us, hl with | [_, _], _ => rfl
theorem Txt.b_law_great {K : PySem.W.Frag} {mg : Str → Option Value} (T : Txt K mg) : Binds K T.d_law_great P_law_great [] := T.F_law_great.binds fun _ _ _ _ _ _ us hl => match us, hl with | [_], _ => rfl
theorem Txt.b_law_arena {K : PySem.W.Frag} {mg : Str → Option Value} (T : Txt K mg) : Binds K T.d_law_arena P_law_arena [] := T.F_law_arena.binds fun _ _ _ _ _ _ us hl => match us, hl with | [_, _], _ => rfl
theorem Txt.b_law_strategy {K : PySem.W.Frag} {mg : Str → Option Value} (T : Txt K mg) : Binds K T.d_law_strategy P_law_strategy [] := T.F_law_strategy.binds fun _ _ _ _ _ _ us hl => match us, hl with | [_, _], _ => rfl
theorem Txt.b_law_goal {K : PySem.W.Frag} {mg : Str → Option Value} (T : Txt K mg) : Binds K T.d_law_goal P_law_goal [] := T.F_law_goal.binds fun _ _ _ _ _ _ us hl => match us, hl with | [_, _, _], _ => rfl
theorem Txt.b_law_some {K : PySem.W.Frag} {mg : Str → Option Value} (T : Txt K mg) : Binds K T.d_law_some P_law_some [] := T.F_law_some.binds fun _ _ _ _ _ _ us hl => match us, hl with | [_, _, _], _ => rfl
theorem Txt.b_law_same {K : PySem.W.Frag} {mg : Str → Option Value} (T : Txt K mg) : Binds K T.d_law_same P_law_same [] := T.F_law_same.binds fun _ _ _ _ _ _ us hl => match us, hl with | [_, _], _ => rfl
theorem Txt.b_law_reached {K : PySem.W.Frag} {mg : Str → Option Value} (T : Txt K mg) : Binds K T.d_law_reached P_law_reached [] := T.F_law_reached.binds fun _ _ _ _ _ _ us hl => match us, hl with | [_, _, _], _ => rfl
theorem Txt.b_law_losses {K : PySem.W.Frag} {mg : Str → Option Value} (T : Txt K mg) : Binds K T.d_law_losses P_law_losses [] := T.F_law_losses.binds fun _ _ _ _ _ _ us hl => match us, hl with | [_, _, _, _], _ => rfl
theorem Txt.b_law_is_emptied {K : PySem.W.Frag} {mg : Str → Option Value} (T : Txt K mg) : Binds K T.d_law_is_emptied P_law_is_emptied [] := T.F_law_is_emptied.binds fun _ _ _ _ _ _ us hl => match us, hl with | [_, _, _, _, _, _], _ => rfl
theorem Txt.b_law_is_long_right {K : PySem.W.Frag} {mg : Str → Option Value} (T : Txt K mg) : Binds K T.d_law_is_long_right P_law_is_long_right [] := T.F_law_is_long_right.binds fun _ _ _ _ _ _ us hl => match us, hl with | [_], _ => rfl
theorem Txt.blaw {K : PySem.W.Frag} {mg : Str → Option Value} (T : Txt K mg) : Binds K T.dlaw Plaw [] := T.Flaw.binds fun _ _ _ _ _ _ us hl => match us, hl with | [_], _ => rfl
end NL

namespace NL
open PySem PySem.Spec PyProof.Rows L2

/-! ### frames: what stays while the list of draws at d is used up -/
structure Go (d : Addr) (H H' : Hp) : Prop where
  fr : ∀ b o, b ≠ d → H b = some o → H' b = some o
  dr : ∃ ns : List Int, H' d = some (.lst (ns.map V.int))
abbrev Dr (H : Hp) (d : Addr) : Prop := ∃ ns : List Int, H d = some (.lst (ns.map V.int))
theorem Go.refl {d : Addr} {H : Hp} (h : Dr H d) : Go d H H := ⟨fun _ _ _ e => e, h⟩
theorem Go.trans {d : Addr} {H H1 H2 : Hp} (a : Go d H H1) (b : Go d H1 H2) : Go d H H2 := ⟨fun c o n e => b.fr c o n (a.fr c o n e), b.dr⟩
theorem Go.new {d p : Addr} {H : Hp} {o : HO} (h : Dr H d) (hp : H p = none) : Go d H (upd H p o) := by
  obtain ⟨ns, e⟩ := h
  have n : d ≠ p := ne_of_none e hp
  exact ⟨fun b u _ q => by rw [upd_ne (ne_of_none q hp)]; exact q, ⟨ns, by rw [upd_ne n]; exact e⟩⟩
theorem Go.put {d : Addr} {H : Hp} (ns : List Int) : Go d H (upd H d (.lst (ns.map V.int))) := ⟨fun b u n q => by rw [upd_ne n]; exact q, ⟨ns, upd_same⟩⟩
theorem Go.same {d : Addr} {H H' : Hp} (h : Dr H d) (s : Same H H') : Go d H H' := ⟨fun b o _ e => s b o e, by obtain ⟨ns, e⟩ := h; exact ⟨ns, s _ _ e⟩⟩
theorem Go.tup {d a : Addr} {H H' : Hp} {xs : List V} (g : Go d H H') (h : Dr H d) (e : H a = some (.tup xs)) : H' a = some (.tup xs) := by
  refine g.fr a _ ?_ e
  rintro rfl
  obtain ⟨ns, q⟩ := h
  rw [e] at q; cases q
theorem same_new {H : Hp} {p : Addr} (h : H p = none) (o : HO) : Same H (upd H p o) := fun b u q => by rw [upd_ne (ne_of_none q h)]; exact q
/-- all tuples stay -/
def Tp (H H' : Hp) : Prop := ∀ a xs, H a = some (.tup xs) → H' a = some (.tup xs)
theorem Go.tp {d : Addr} {H H' : Hp} (g : Go d H H') (h : Dr H d) : Tp H H' := fun _ _ e => g.tup h e
theorem Tp.same {H H' : Hp} (s : Same H H') : Tp H H' := fun _ _ e => s _ _ e
theorem Tp.trans {H H1 H2 : Hp} (a : Tp H H1) (b : Tp H1 H2) : Tp H H2 := fun x y e => b x y (a x y e)
theorem Tp.refl {H : Hp} : Tp H H := fun _ _ e => e
/-- a list that stays readable whatever is drawn at d -/
def Keep (K : PySem.W.Frag) (d : Addr) (H : Hp) (a : Addr) (xs : List V) : Prop := ∀ H', (∀ b o, b ≠ d → H b = some o → H' b = some o) → SqL K H' a xs
theorem Keep.now {K : PySem.W.Frag} {d a : Addr} {H : Hp} {xs : List V} (k : Keep K d H a xs) : SqL K H a xs := k H fun _ _ _ e => e
theorem Keep.go {K : PySem.W.Frag} {d a : Addr} {H H' : Hp} {xs : List V} (k : Keep K d H a xs) (g : Go d H H') : Keep K d H' a xs := fun H2 f => k H2 fun b o n e => f b o n (g.fr b o n e)
theorem Keep.of {K : PySem.W.Frag} {d a : Addr} {H : Hp} {xs : List V} (n : a ≠ d) (h : H a = some (.lst xs)) : Keep K d H a xs := fun H' f => .inl (.inl (f a _ n h))
/-- what was read ahead of the draws' list stays -/
theorem Keep.old {K : PySem.W.Frag} {d a : Addr} {H0 H : Hp} {xs : List V} (h : SqL K H0 a xs) (hd : H0 d = none) (f : ∀ b o, H0 b = some o → H b = some o) : Keep K d H a xs := fun H' g => by
  rcases h with (h | ⟨o, h⟩) | h
  · exact .inl (.inl (g a _ (ne_of_none h hd) (f _ _ h)))
  · exact .inl (.inr ⟨o, g a _ (ne_of_none h hd) (f _ _ h)⟩)
  · exact .inr h

/-! ### rules whose written part is named (in a comprehension) -/
theorem ix_tupK {X : Cx} {K : PySem.W.Frag} (h : X.K = K) : IxR X (rIxT K) := by subst h; exact ix_tup
theorem ix_listK {X : Cx} {K : PySem.W.Frag} (h : X.K = K) : IxR X (rIxL K) := by subst h; exact ix_list
def rTupOf (K : PySem.W.Frag) : List V → Hp → VK → Prop := fun xs H Q => ∃ p ys, xs = [.ref p] ∧ ((SqL K H p ys ∧ ∀ l, H l = none → Q (.ref l) (upd H l (.tup ys))) ∨ (SqT K H p ys ∧ Q (.ref p) H))
theorem call_tuple_ofK {X : Cx} {K : PySem.W.Frag} (h : X.K = K) : CallR X (.type "tuple") (rTupOf K) := by subst h; exact call_tuple_of
/-! ### texts and words -/
/-- signs a to z alone -/
def Wd (z : Str) : Prop := ∀ c ∈ z.cps.toList, 97 ≤ c ∧ c ≤ 122
instance (z : Str) : Decidable (Wd z) := by unfold Wd; infer_instance
def res : List Str := ["true", "false", "add", "sub", "mul", "div", "mod", "min", "max", "abs", "if", "less", "equal", "not", "all", "any"]
theorem app_list (a b : Str) : (a ++ b).cps.toList = a.cps.toList ++ b.cps.toList := by
  show (a.cps ++ b.cps).toList = _
  simp
theorem len_list (a : Str) : a.length = a.cps.toList.length := by
  show a.cps.size = _
  simp
theorem len_app (a b : Str) : (a ++ b).length = a.length + b.length := by
  rw [len_list, app_list, List.length_append, ← len_list, ← len_list]
theorem str_ext {a b : Str} (h : a.cps.toList = b.cps.toList) : a = b := by
  cases a with | mk x => cases b with | mk y =>
  have : x = y := Array.toList_inj.mp h
  rw [this]
theorem Wd.app {a b : Str} (ha : Wd a) (hb : Wd b) : Wd (a ++ b) := fun c hc => by
  rw [app_list] at hc
  rcases List.mem_append.mp hc with h | h
  · exact ha c h
  · exact hb c h
structure Nam (z : Str) : Prop where
  wd : Wd z
  len : 0 < z.length ∧ z.length ≤ 200
  nr : z ∉ res
structure Nm (z : Str) : Prop where
  wd : Wd z
  len : 0 < z.length ∧ z.length ≤ 150

/-! ### lists at an index -/
theorem atI_mem {α : Type} {xs : List α} {i : Int} (h0 : 0 ≤ i) (h1 : i < xs.length) : ∃ v, atI xs i = some v ∧ v ∈ xs := by
  have hk : i.toNat < xs.length := by omega
  have ek : i = ((i.toNat : Nat) : Int) := by omega
  have q : atI xs ((i.toNat : Nat) : Int) = some xs[i.toNat] := atI_nat (List.getElem?_eq_getElem hk)
  rw [← ek] at q
  exact ⟨_, q, List.getElem_mem hk⟩
theorem atI_map {α β : Type} {f : α → β} {xs : List α} {i : Int} (h0 : 0 ≤ i) (h1 : i < xs.length) : ∃ v, atI (xs.map f) i = some (f v) ∧ v ∈ xs := by
  obtain ⟨v, h, m⟩ := atI_mem (xs := xs.map f) h0 (by rw [List.length_map]; exact h1)
  obtain ⟨u, hu, rfl⟩ := List.mem_map.mp m
  exact ⟨u, h, hu⟩
theorem sqd {K : PySem.W.Frag} {H : Hp} {a : Addr} {xs : List V} (h : H a = some (.lst xs)) : SqL K H a xs := .inl (.inl h)
theorem sqt {K : PySem.W.Frag} {H : Hp} {a : Addr} {xs : List V} (h : H a = some (.tup xs)) : SqT K H a xs := .inl (.inl h)
theorem int_eq {i j : Int} (h : decide (V.int i = V.int j) = true) : i = j := V.int.inj (of_decide_eq_true h)
theorem int_ne {i j : Int} (h : ¬ decide (V.int i = V.int j) = true) : i ≠ j := fun e => h (decide_eq_true (by rw [e]))
section
variable {P : Program} {w : World} {K : PySem.W.Frag} {mg : Str → Option Value} {base : Heap}
/-! ### _law_take -/
def spTake : Sp := fun vs H Q _ => ∃ (d : Addr) (m : Int), vs = [.ref d, .int m] ∧ Dr H d ∧ 0 < m ∧ ∀ r H', Go d H H' → 0 ≤ r → r < m → Q (.int r) H'
theorem ok_law_take (T : Txt K mg) : FnOk P w K mg base CX0 1 T.a_law_take T.d_law_take P_law_take spTake := by
  refine T.F_law_take.ok sc_law_take (fun vs H Q E h => ?_) (fun cdv A outer s H vs Q E hr h => ?_)
  · obtain ⟨d, m, rfl, _⟩ := h
    rfl
  obtain ⟨d, m, rfl, hD, hm, q⟩ := h
  refine ⟨_, (pss_cons (ps_if (pt_cmpR op_eq (pe_callB call_len_seq (by rfl) T.z_len PySem.boot_len (pa_cons (pv 0) pa_nil)) pe_int (nomark _))
    (pss_one (ps_ret pe_int))
    pss_nil)
    (pss_one (ps_ret (pe_op op_mod (pe_callTy call_int1 (by rfl) T.z_int (by decide +kernel) (pa_cons (pe_bm0 PySem.F.plainAttrs_list PySem.F.slot_list_pop PySem.F.type_list_pop mt_pop (pv 0)) pa_nil)) (pv 1))))), ?_⟩
  obtain ⟨ns, hd⟩ := hD
  refine ⟨_, rfl, _, _, rfl, .inl (sqd hd), rfl, _, rfl, ?_⟩
  refine ite2 (fun c => ?_) (fun c => ?_)
  · exact q 0 H (Go.refl ⟨ns, hd⟩) (Int.le_refl 0) hm
  · have hn := int_ne c
    rw [List.length_map] at hn
    have hz : ns ≠ [] := by
      rintro rfl
      exact hn rfl
    have hl : 0 < ns.length := List.length_pos_iff.mpr hz
    have he : (ns.map V.int)[(ns.map V.int).length - 1]? = some (.int ns[ns.length - 1]) := by
      rw [List.length_map, List.getElem?_map, List.getElem?_eq_getElem (by omega)]
      rfl
    refine ⟨_, rfl, .inl ⟨rfl, _, sqd hd⟩, _, _, _, rfl, rfl, hd, he, .inl ⟨_, rfl, ?_⟩⟩
    refine ⟨_, rfl, _, _, rfl, rfl, hm, ?_⟩
    refine q _ _ ?_ (Int.emod_nonneg _ (by omega)) (Int.emod_lt_of_pos _ hm)
    rw [← List.map_dropLast]
    exact Go.put _
end
end NL

namespace NL
open PySem PySem.Spec PyProof.Rows L2
theorem yes_if {σ : L2.St} {H : Hp} {a n : Hp → Prop} (h : a H) : tYes σ H (fun b H3 => if b = true then a H3 else n H3) := by
  show (if true = true then a H else n H)
  rw [if_pos rfl]
  exact h
/-- one reading for two ways -/
theorem cutP {B C : Prop} (f : B → C) (b : B) : C := f b
theorem ifT {c : Bool} {A B : Prop} (h : c = true) (a : A) : if c = true then A else B := by
  rw [if_pos h]; exact a
theorem ifF {c : Bool} {A B : Prop} (h : c = false) (b : B) : if c = true then A else B := by
  rw [if_neg (by rw [h]; exact Bool.false_ne_true)]; exact b
theorem atI0 {α : Type} {x : α} {r : List α} : atI (x :: r) 0 = some x := atI_nat (j := 0) rfl
theorem atI1 {α : Type} {x y : α} {r : List α} : atI (x :: y :: r) 1 = some y := atI_nat (j := 1) rfl
theorem boolE {Q : VK} {b b' : Bool} {H : Hp} (h : b = b') (q : Q (.bl b') H) : Q (.bl b) H := by rw [h]; exact q
theorem big {n : Nat} (h : n ≤ 1000000) : n ≤ sizeLine := Nat.le_trans h (by decide)
theorem big' {n : Nat} (h : n ≤ 1000000) : n < sizeLine := Nat.lt_of_le_of_lt h (by decide)
theorem int_in {x : Int} {l : List Int} : inV (.int x) (l.map V.int) = decide (x ∈ l) := by
  unfold inV
  rw [List.any_map]
  induction l with
  | nil => rfl
  | cons a r ih =>
    rw [List.any_cons, ih]
    show (eqV (.int a) (.int x) || _) = _
    have e : eqV (.int a) (.int x) = decide (x = a) := by
      show (a == x) = _
      rw [Bool.beq_eq_decide_eq]
      exact decide_eq_decide.mpr ⟨fun h => h.symm, fun h => h.symm⟩
    rw [e, ← Bool.decide_or]
    exact decide_eq_decide.mpr List.mem_cons.symm
theorem flat_ints' (l : List Int) : (l.map V.int).all flatV = true := by
  induction l with
  | nil => rfl
  | cons a r ih => rw [List.map_cons, List.all_cons, ih]; rfl
theorem notIn_int {x : Int} {l : List Int} : (if true = true then !inV (V.int x) (l.map V.int) else inV (V.int x) (l.map V.int)) = !decide (x ∈ l) := by
  rw [if_pos rfl, int_in]
def rLenK (K : PySem.W.Frag) : List V → Hp → VK → Prop := fun xs H Q => ∃ p ys, xs = [.ref p] ∧ (SqL K H p ys ∨ SqT K H p ys) ∧ Q (.int (ys.length : Nat)) H
theorem call_len_seqK {X : Cx} {K : PySem.W.Frag} (h : X.K = K) : CallR X (.builtin "len") (rLenK K) := by
  subst h
  exact call_len_seq
end NL

namespace NL
open PySem PySem.Spec PyProof.Rows L2
theorem ixN_in {n : Nat} {k : Int} (h0 : 0 ≤ k) (h1 : k < n) : ixN n k = some k.toNat := by
  unfold ixN
  rw [if_pos h0, if_pos h1]
/-- a change at what was not there before -/
theorem same_put {H H' : Hp} {p : Addr} {o : HO} (s : Same H H') (hp : H p = none) : Same H (upd H' p o) := fun b u e => by
  rw [upd_ne (ne_of_none e hp)]
  exact s b u e
section
variable {P : Program} {w : World} {K : PySem.W.Frag} {mg : Str → Option Value} {base : Heap}
def spDraws (K : PySem.W.Frag) : Sp := fun vs H Q _ => ∃ (a : Addr) (ns : List Int) (m : Int), vs = [.ref a, .int m] ∧ SqL K H a (ns.map V.int) ∧ ns.length ≤ 63 ∧ 0 ≤ m ∧ m ≤ 10000 ∧
  ∀ d H', Same H H' → H d = none → Dr H' d → Q (.ref d) H'
theorem ok_law_draws (T : Txt K mg) : FnOk P w K mg base CX0 1 T.a_law_draws T.d_law_draws P_law_draws (spDraws K) := by
  refine T.F_law_draws.ok sc_law_draws (fun vs H Q E h => ?_) (fun cdv A outer s H vs Q E hr h => ?_)
  · obtain ⟨a, ns, m, rfl, _⟩ := h
    rfl
  obtain ⟨a, ns, m, rfl, hS, hl, m0, m1, q⟩ := h
  refine ⟨_, (pss_cons (ps_setLc (i := 2) (own := [("cell", 3)]) (g := (gName 3)) (tt := tYes) rfl sc_law_draws.nd rfl rfl (sw_true rfl rfl rfl (by decide +kernel)) (pi_list (pv 0)) (blkOk_by (N := N_law_draws) (sc := defScope s_law_draws) (by decide +kernel)) (fun _ _ _ _ _ => (pg_name (i := 3) sc_law_draws.nd rfl (Or.inl rfl))) (fun _ _ _ _ _ => pts_nil) (fun _ _ _ _ _ => (pe_callTy call_int1 (by rfl) T.z_int (by decide +kernel) (pa_cons (pv 3) pa_nil))))
    (C8.pss_cut (ps_if (pt_cmpR op_eq (pe_callB call_len_seq (by rfl) T.z_len PySem.boot_len (pa_cons (pv 2) pa_nil)) pe_int (nomark _))
    (pss_one (ps_expr (pe_bm PySem.F.plainAttrs_list PySem.F.slot_list_append PySem.F.type_list_append mt_append (pv 2) (pa_cons pe_int pa_nil))))
    pss_nil)
    (pss_cons (ps_set (i := 4) sc_law_draws.nd rfl (Or.inl rfl) (pe_callTy call_list_of (by rfl) T.z_list (by decide +kernel) (pa_cons (pv 2) pa_nil)))
    (pss_cons (ps_set (i := 5) sc_law_draws.nd rfl (Or.inl rfl) (pe_lst pa_nil))
    (pss_cons (ps_for  PassesOwn.never rfl (pi_range1 (by rfl) T.z_range (pa_cons (pv 1) pa_nil)) (pg_name (i := 6) sc_law_draws.nd rfl (Or.inl rfl))
    (pss_cons (ps_set (i := 7) sc_law_draws.nd rfl (Or.inl rfl) (pe_op op_mod (pv 6) (pe_callB call_len_seq (by rfl) T.z_len PySem.boot_len (pa_cons (pv 2) pa_nil))))
    (pss_one (ps_if (pt_cmpR op_ge (pe_ix ix_list (pv 2) (pv 7) (fun _ _ => rfl)) (pe_op op_pow pe_int pe_int) (nomark _))
    (pss_cons (ps_expr (pe_bm PySem.F.plainAttrs_list PySem.F.slot_list_append PySem.F.type_list_append mt_append (pv 5) (pa_cons (pe_op op_mod (pe_callTy call_int1 (by rfl) T.z_int (by decide +kernel) (pa_cons (pe_ix ix_list (pv 4) (pv 7) (fun _ _ => rfl)) pa_nil)) pe_int) pa_nil)))
    (pss_one (ps_asg (pe_op op_fdiv (pe_ix ix_list (pv 4) (pv 7) (fun _ _ => rfl)) pe_int) (pg_sub (pv 4) (pv 7) set_list))))
    (pss_cons (ps_set (i := 8) sc_law_draws.nd rfl (Or.inl rfl) (pe_op op_mod (pe_callTy call_int1 (by rfl) T.z_int (by decide +kernel) (pa_cons (pe_op op_add (pe_op op_add (pe_op op_mul (pe_ix ix_list (pv 2) (pv 7) (fun _ _ => rfl)) pe_int) (pe_op op_mul (pv 6) pe_int)) pe_int) pa_nil)) pe_int))
    (pss_one (ps_expr (pe_bm PySem.F.plainAttrs_list PySem.F.slot_list_append PySem.F.type_list_append mt_append (pv 5) (pa_cons (pe_op op_mod (pe_callTy call_int1 (by rfl) T.z_int (by decide +kernel) (pa_cons (pe_op op_add (pe_op op_add (pe_op op_mul (pv 8) (pv 8)) (pe_op op_mul pe_int (pv 8))) (pv 6)) pa_nil)) pe_int) pa_nil)))))))))
    (pss_cons (ps_expr (pe_bm0 PySem.F.plainAttrs_list PySem.F.slot_list_reverse PySem.F.type_list_reverse mt_reverse (pv 5)))
    (pss_one (ps_ret (pv 5))))))))), ?_⟩
  -- cells
  refine ⟨_, rfl, a, rfl, ⟨_, hS⟩, fun c hc => ?_⟩
  refine lc_list (K := K) (a := a) (xs := ns.map V.int) (fun (j : Nat) (H' : Hp) => Same H H' ∧ H' c = some (.lst ((ns.take j).map V.int))) ?_ ?_ ?_ ?_
  · exact ⟨same_new hc _, by rw [upd_same, List.take_zero]; rfl⟩
  · rintro i H' _ ⟨s1, _⟩
    exact s1.seq hS
  · rintro i x H' hx ⟨s1, e1⟩
    rw [List.getElem?_map] at hx
    cases hn : ns[i]? with
    | none => rw [hn] at hx; cases hx
    | some n =>
      rw [hn] at hx
      obtain rfl : V.int n = x := Option.some.inj hx
      refine ⟨rfl, yes_if ?_⟩
      refine ⟨_, rfl, .inl ⟨n, rfl, _, e1, ?_, same_put s1 hc, ?_⟩⟩
      · rw [List.length_map, List.length_take]
        exact big' (by omega)
      · rw [upd_same, List.take_add_one, hn, List.map_append]
        rfl
  · rintro H1 ⟨s1, e1⟩
    rw [List.length_map, List.take_length] at e1
    -- at least one cell
    refine ⟨fun σ H2 => ∃ cs : List Int, cs ≠ [] ∧ cs.length ≤ 63 ∧ σ = [some (.ref a), some (.int m), some (.ref c), none, none, none, none, none, none] ∧ Same H H2 ∧ H2 c = some (.lst (cs.map V.int)), ?_, ?_⟩
    · refine ⟨_, rfl, _, _, rfl, .inl (sqd e1), rfl, _, rfl, ?_⟩
      refine ite2 (fun z => ?_) (fun z => ?_)
      · refine ⟨_, rfl, .inl ⟨rfl, _, sqd e1⟩, c, _, _, rfl, rfl, e1, ?_, ?_⟩
        · rw [List.length_map]
          exact big' (by omega)
        · have hz := int_eq z
          rw [List.length_map] at hz
          have : ns = [] := List.length_eq_zero_iff.mp (by omega)
          subst this
          exact ⟨[0], by simp, by decide, rfl, same_put s1 hc, upd_same⟩
      · have hz := int_ne z
        rw [List.length_map] at hz
        refine ⟨ns, ?_, hl, rfl, s1, e1⟩
        rintro rfl
        exact hz rfl
    · rintro σ H2 ⟨cs, hcs, hcl, rfl, s2, e2⟩
      have hpos : 0 < cs.length := List.length_pos_iff.mpr hcs
      -- rest, draws
      refine ⟨_, rfl, _, _, rfl, .inl (sqd e2), fun r hr2 => ?_⟩
      have ncr : c ≠ r := ne_of_none e2 hr2
      refine ⟨(Nat.le_of_ble_eq_true rfl), fun d hd => ?_⟩
      have ncd : c ≠ d := ne_of_none (by rw [upd_ne ncr]; exact e2) hd
      have nrd : r ≠ d := ne_of_none upd_same hd
      have hHr : H r = none := s2.free hr2
      have hHd : H d = none := (s2.trans (same_new hr2 _)).free hd
      refine ⟨_, rfl, m, rfl, by omega, by omega, for_range (lo := 0) (n := m.toNat) (fun (j : Nat) (σ : L2.St) (H' : Hp) => ∃ (rs ds : List Int) (y1 y2 y3 : Option V), σ = [some (.ref a), some (.int m), some (.ref c), none, some (.ref r), some (.ref d), y1, y2, y3] ∧ Same H H' ∧ H' c = some (.lst (cs.map V.int)) ∧ H' r = some (.lst (rs.map V.int)) ∧ rs.length = cs.length ∧ H' d = some (.lst (ds.map V.int)) ∧ ds.length ≤ j) ?_ ?_ ?_⟩
      · refine ⟨cs, [], none, none, none, rfl, (s2.trans (same_new hr2 _)).trans (same_new hd _), ?_, ?_, rfl, upd_same, Nat.le_refl _⟩
        · rw [upd_ne ncd, upd_ne ncr]; exact e2
        · rw [upd_ne nrd]; exact upd_same
      · rintro j σ H' hj ⟨rs, ds, y1, y2, y3, rfl, s3, ec, er, hrl, ed, hdl⟩
        have b0 := Int.emod_nonneg ((0 : Int) + (j : Int)) (show (((cs.map V.int).length : Nat) : Int) ≠ 0 by rw [List.length_map]; omega)
        have b1 : (((0 : Int) + (j : Int)) % (((cs.map V.int).length : Nat) : Int)) < (cs.length : Int) := by
          have h := Int.emod_lt_of_pos ((0 : Int) + (j : Int)) (show 0 < (((cs.map V.int).length : Nat) : Int) by rw [List.length_map]; omega)
          rw [List.length_map] at h ⊢
          exact h
        refine ⟨_, rfl, _, rfl, _, _, rfl, .inl (sqd ec), _, _, rfl, rfl, (by show 0 < (((cs.map V.int).length : Nat) : Int); rw [List.length_map]; omega), ?_⟩
        obtain ⟨cv, hcv, _⟩ := atI_map (f := V.int) (xs := cs) b0 b1
        obtain ⟨rv, hrv, _⟩ := atI_map (f := V.int) (xs := rs) b0 (by omega)
        refine ⟨_, rfl, _, rfl, _, _, _, _, rfl, rfl, sqd ec, hcv, _, _, rfl, rfl, ⟨by decide, by decide, by decide⟩, _, _, rfl, rfl, _, rfl, ?_⟩
        refine ite2 (fun z => ?_) (fun z => ?_)
        · refine ⟨_, rfl, .inl ⟨rfl, _, sqd ed⟩, _, rfl, _, rfl, _, _, _, _, rfl, rfl, sqd er, hrv, .inl ⟨_, rfl, _, _, rfl, rfl, (by show (0 : Int) < 1000; decide), d, _, _, rfl, rfl, ed, ?_, ?_⟩⟩
          · rw [List.length_map]
            exact big' (by omega)
          · have er2 : ∀ o, (upd H' d o) r = some (.lst (rs.map V.int)) := fun o => by rw [upd_ne nrd]; exact er
            refine ⟨_, rfl, _, rfl, _, _, _, _, rfl, rfl, sqd (er2 _), hrv, _, _, rfl, rfl, ⟨by decide, by decide⟩, _, rfl, _, rfl, r, _, _, _, rfl, rfl, er2 _, ixN_in b0 (by have h : (rs.map V.int).length = rs.length := List.length_map _; omega), ?_⟩
            refine ⟨rs.set (((0 : Int) + (j : Int)) % (((cs.map V.int).length : Nat) : Int)).toNat (rv / 1000), ds ++ [rv % 1000], _, _, _, rfl, same_put (same_put s3 hHd) hHr, ?_, ?_, ?_, ?_, ?_⟩
            · rw [upd_ne ncr, upd_ne ncd]; exact ec
            · rw [upd_same, List.map_set]
            · rw [List.length_set]; exact hrl
            · rw [upd_ne nrd.symm, upd_same, List.map_append]; rfl
            · rw [List.length_append, List.length_singleton]; omega
        · have o0 := fun z : Int => Int.emod_nonneg z (by decide : (2147483647 : Int) ≠ 0)
          have o1 := fun z : Int => Int.emod_lt_of_pos z (by decide : (0 : Int) < 2147483647)
          refine ⟨_, rfl, _, rfl, _, _, _, _, rfl, rfl, sqd ec, hcv, _, _, rfl, rfl, .inr ⟨by decide, by decide⟩, _, rfl, _, _, rfl, rfl, .inr ⟨by decide, by decide⟩, _, _, rfl, rfl, _, _, rfl, rfl, .inl ⟨_, rfl, _, _, rfl, rfl, (by show (0 : Int) < 2147483647; decide), ?_⟩⟩
          refine ⟨_, rfl, .inl ⟨rfl, _, sqd ed⟩, _, rfl, _, rfl, _, _, rfl, rfl, ?_, ?_⟩
          · left
            have h1 := o0 (cv * 48271 + (0 + (j : Int)) * 69621 + 11)
            have h2 := o1 (cv * 48271 + (0 + (j : Int)) * 69621 + 11)
            constructor
            · show -(2 ^ 64) < _
              omega
            · show _ < 2 ^ 64
              omega
          · refine ⟨_, rfl, _, _, rfl, rfl, .inl ⟨by decide, by decide⟩, _, _, rfl, rfl, _, rfl, _, _, rfl, rfl, .inl ⟨_, rfl, _, _, rfl, rfl, (by show (0 : Int) < 1000003; decide), d, _, _, rfl, rfl, ed, ?_, ?_⟩⟩
            · rw [List.length_map]
              exact big' (by omega)
            · refine ⟨rs, ds ++ [(((cv * 48271 + (0 + (j : Int)) * 69621 + 11) % 2147483647) * ((cv * 48271 + (0 + (j : Int)) * 69621 + 11) % 2147483647) + 3 * ((cv * 48271 + (0 + (j : Int)) * 69621 + 11) % 2147483647) + (0 + (j : Int))) % 1000003], _, _, _, rfl, same_put s3 hHd, ?_, ?_, hrl, ?_, ?_⟩
              · rw [upd_ne ncd]; exact ec
              · rw [upd_ne nrd]; exact er
              · rw [upd_same, List.map_append]; rfl
              · rw [List.length_append, List.length_singleton]; omega
      · rintro σ H' ⟨rs, ds, y1, y2, y3, rfl, s3, ec, er, hrl, ed, hdl⟩
        refine ⟨_, rfl, .inl ⟨rfl, _, sqd ed⟩, d, _, rfl, rfl, ed, ?_⟩
        refine ⟨_, rfl, q d _ (same_put s3 hHd) hHd ⟨ds.reverse, ?_⟩⟩
        rw [upd_same, List.map_reverse]
end
end NL

namespace NL
open PySem PySem.Spec PyProof.Rows L2
/-! ### rows and what stands in them -/
def Each {α : Type} (R : α → V → Prop) (l : List α) (xs : List V) : Prop := xs.length = l.length ∧ ∀ (k : Nat) a x, l[k]? = some a → xs[k]? = some x → R a x
theorem Each.nil {α : Type} {R : α → V → Prop} : Each R [] [] := ⟨rfl, fun k a x h => by simp at h⟩
theorem Each.mono {α : Type} {R S : α → V → Prop} {l : List α} {xs : List V} (h : Each R l xs) (f : ∀ a x, R a x → S a x) : Each S l xs := ⟨h.1, fun k a x e g => f a x (h.2 k a x e g)⟩
theorem Each.cons {α : Type} {R : α → V → Prop} {l : List α} {xs : List V} {a : α} {x : V} (r : R a x) (h : Each R l xs) : Each R (a :: l) (x :: xs) := ⟨by rw [List.length_cons, List.length_cons, h.1], fun k b y e g => by
  cases k with
  | zero => cases e; cases g; exact r
  | succ k => exact h.2 k b y e g⟩
theorem Each.app {α : Type} {R : α → V → Prop} {l m : List α} {xs ys : List V} (h : Each R l xs) (g : Each R m ys) : Each R (l ++ m) (xs ++ ys) := by
  refine ⟨by rw [List.length_append, List.length_append, h.1, g.1], fun k r x e f => ?_⟩
  by_cases hk : k < l.length
  · rw [List.getElem?_append_left hk] at e
    rw [List.getElem?_append_left (by rw [h.1]; exact hk)] at f
    exact h.2 k r x e f
  · rw [List.getElem?_append_right (by omega)] at e
    rw [List.getElem?_append_right (by rw [h.1]; omega), h.1] at f
    exact g.2 _ r x e f
theorem Each.snoc {α : Type} {R : α → V → Prop} {l : List α} {xs : List V} {a : α} {x : V} (h : Each R l xs) (r : R a x) : Each R (l ++ [a]) (xs ++ [x]) := h.app (.cons r .nil)
theorem Each.take {α : Type} {R : α → V → Prop} {l : List α} {xs : List V} (h : Each R l xs) (n : Nat) : Each R (l.take n) (xs.take n) := ⟨by rw [List.length_take, List.length_take, h.1], fun k a x e g => by
  rw [List.getElem?_take] at e g
  split at e
  · rename_i hk
    rw [if_pos hk] at g
    exact h.2 k a x e g
  · cases e⟩
theorem Each.drop {α : Type} {R : α → V → Prop} {l : List α} {xs : List V} (h : Each R l xs) (n : Nat) : Each R (l.drop n) (xs.drop n) := ⟨by rw [List.length_drop, List.length_drop, h.1], fun k a x e g => by
  rw [List.getElem?_drop] at e g
  exact h.2 _ a x e g⟩
theorem Each.set {α : Type} {R : α → V → Prop} {l : List α} {xs : List V} {a : α} {x : V} (h : Each R l xs) (n : Nat) (r : R a x) : Each R (l.set n a) (xs.set n x) := ⟨by rw [List.length_set, List.length_set, h.1], fun k b y e g => by
  rw [List.getElem?_set] at e g
  by_cases hk : n = k
  · rw [if_pos hk] at e g
    by_cases hl : n < l.length
    · rw [if_pos hl] at e
      rw [if_pos (by rw [h.1]; exact hl)] at g
      cases e; cases g; exact r
    · rw [if_neg hl] at e
      cases e
  · rw [if_neg hk] at e g
    exact h.2 k b y e g⟩
theorem Each.at {α : Type} {R : α → V → Prop} {l : List α} {xs : List V} {a : α} {k : Nat} (h : Each R l xs) (e : l[k]? = some a) : ∃ x, xs[k]? = some x ∧ R a x := by
  have hk : k < xs.length := by
    rw [h.1]
    exact (List.getElem?_eq_some_iff.mp e).1
  exact ⟨_, List.getElem?_eq_getElem hk, h.2 k a _ e (List.getElem?_eq_getElem hk)⟩
theorem Each.atI {α : Type} {R : α → V → Prop} {l : List α} {xs : List V} {i : Int} (h : Each R l xs) (h0 : 0 ≤ i) (h1 : i < l.length) : ∃ a x, l[i.toNat]? = some a ∧ atI xs i = some x ∧ R a x := by
  have hk : i.toNat < l.length := by omega
  obtain ⟨x, hx, r⟩ := h.at (List.getElem?_eq_getElem hk)
  have q : L2.atI xs ((i.toNat : Nat) : Int) = some x := atI_nat hx
  rw [show ((i.toNat : Nat) : Int) = i by omega] at q
  exact ⟨_, x, List.getElem?_eq_getElem hk, q, r⟩
/-! ### options, positions, arenas -/
abbrev Opt := List Int
abbrev Pos' := List Opt
abbrev Ar := List Pos'
def OptIn (H : Hp) (o : Opt) (v : V) : Prop := ∃ b, v = .ref b ∧ H b = some (.tup (o.map V.int))
def PosIn (H : Hp) (os : Pos') (v : V) : Prop := ∃ b xs, v = .ref b ∧ H b = some (.tup xs) ∧ Each (OptIn H) os xs
def ArIn (H : Hp) (A : Ar) (v : V) : Prop := ∃ b xs, v = .ref b ∧ H b = some (.tup xs) ∧ Each (PosIn H) A xs
theorem OptIn.tp {H H' : Hp} {o : Opt} {v : V} (t : Tp H H') (h : OptIn H o v) : OptIn H' o v := by
  obtain ⟨b, e, q⟩ := h
  exact ⟨b, e, t _ _ q⟩
theorem PosIn.tp {H H' : Hp} {o : Pos'} {v : V} (t : Tp H H') (h : PosIn H o v) : PosIn H' o v := by
  obtain ⟨b, xs, e, q, r⟩ := h
  exact ⟨b, xs, e, t _ _ q, r.mono fun a x => OptIn.tp t⟩
theorem ArIn.tp {H H' : Hp} {o : Ar} {v : V} (t : Tp H H') (h : ArIn H o v) : ArIn H' o v := by
  obtain ⟨b, xs, e, q, r⟩ := h
  exact ⟨b, xs, e, t _ _ q, r.mono fun a x => PosIn.tp t⟩
/-- an option of an arena with n positions -/
structure OptG (n : Int) (o : Opt) : Prop where
  ne : o ≠ []
  len : o.length ≤ 60
  mem : ∀ s ∈ o, -1 ≤ s ∧ s < n
  asc : o.Pairwise (· < ·)
def PosG (n : Int) (os : Pos') : Prop := os.length ≤ 12 ∧ ∀ o ∈ os, OptG n o
def ArG (A : Ar) : Prop := A.length ≤ 400 ∧ ∀ os ∈ A, PosG A.length os
theorem OptG.one {n s : Int} (h0 : -1 ≤ s) (h1 : s < n) : OptG n [s] := ⟨by simp, by simp, fun t ht => by rw [List.mem_singleton.mp ht]; exact ⟨h0, h1⟩, List.pairwise_singleton _ _⟩
theorem asc_of {l m : List Int} (h : l.Perm m) (hm : m.Nodup) (hp : l.Pairwise (· ≤ ·)) : l.Pairwise (· < ·) := by
  have hn : l.Nodup := h.nodup_iff.mpr hm
  refine (hp.and hn).imp fun {a b} h => ?_
  obtain ⟨h1, h2⟩ := h
  omega
theorem tp_put {H H' : Hp} {p : Addr} {o : List V} {o' : HO} (t : Tp H H') (h : H' p = some (.lst o)) : Tp H (upd H' p o') := fun a xs e => by
  have n : a ≠ p := fun q => by
    have := t a xs e
    rw [q, h] at this
    cases this
  rw [upd_ne n]
  exact t a xs e
theorem Go.put2 {d p : Addr} {H H' : Hp} {o : HO} (g : Go d H H') (hp : H p = none) (n : p ≠ d) : Go d H (upd H' p o) := ⟨fun b u hb e => by
  rw [upd_ne (ne_of_none e hp)]
  exact g.fr b u hb e, by
  obtain ⟨ns, e⟩ := g.dr
  exact ⟨ns, by rw [upd_ne n.symm]; exact e⟩⟩
theorem new_ne {d p : Addr} {H : Hp} (h : Dr H d) (hp : H p = none) : p ≠ d := by
  rintro rfl
  obtain ⟨ns, e⟩ := h
  rw [hp] at e
  cases e
theorem Go.free {d p : Addr} {H H' : Hp} (g : Go d H H') (hp : H' p = none) : H p = none := by
  cases e : H p with
  | none => rfl
  | some o =>
    by_cases hd : p = d
    · obtain ⟨ns, q⟩ := g.dr
      rw [hd, q] at hp
      cases hp
    · rw [g.fr p o hd e] at hp
      cases hp
end NL

set_option maxHeartbeats 4000000
namespace NL
open PySem PySem.Spec PyProof.Rows L2
section
variable {P : Program} {w : World} {A : Around} {E : Value → Shared → Prop} {s : Shared}
set_option maxHeartbeats 3200000 in
theorem call_set_ints {l : Addr} {items : Array Value} (ns : List Int) {Q : Value → Shared → Prop} (hh : A.handled = none) (hl : s.heap.IsList l items) (hit : IntsAre items.toList ns) (hb : ns.length + 1 < scanBound)
    (h : ∀ (h' : Heap) (tk c : Nat), SetR w h' s.heap.objs.size (fun j => decide (j ∈ ns)) c → c ≤ ns.length → (∀ b o, s.heap.get? b = some o → h'.get? b = some o) → Q (.ref s.heap.objs.size) { s with heap := h', toks := tk }) :
    wpAny (model P w) A (call (.type "set") [.ref l]) Q E s := by
  have hisz : items.size = ns.length := by
    have q := IntsAre.length hit
    rw [Array.length_toList] at q
    exact q
  obtain ⟨c, tl, hmro⟩ := F.called_set.mro
  have hmade := F.called_set.made
  have hsub := F.called_set.sub
  refine wpAny_call (codeAny_of_tree ?_)
  show wpAny _ _ (callAny (.type "set") _) _ _ _
  refine wpAny_pure ⟨Code.quiet_builtin _ (by decide +kernel), codeAny_builtin F.entry_type_call ?_⟩
  rw [Around.under_plain (weight_type_call_type "set" [.ref l] []) rfl]
  have h1 := F.called_set.notType
  have h2 := F.called_set.canCreate
  have hct := F.typeCall_set_1 (.ref l)
  repeat (any_goals (first | assumption | wp_step))
  refine codeAny_mono (code_set_led1 (.ref l) (E := E) (Q₁ := fun obj s₁ => obj = .ref s.heap.objs.size ∧ s₁ = { s with heap := s.heap.push { cls := .type "set", dict := none, data := .set #[] 0 (.fresh 0 0 (!w.params.followText "set-order")) } }) ⟨rfl, rfl⟩) fun r s₁ hr => ?_
  cases r with
  | error e => exact hr
  | ok fl =>
    cases fl with
    | ret obj =>
      obtain ⟨rfl, rfl⟩ := hr
      have hS : (s.heap.push { cls := .type "set", dict := none, data := .set #[] 0 (.fresh 0 0 (!w.params.followText "set-order")) }).get? s.heap.objs.size = some { cls := .type "set", dict := none, data := .set #[] 0 (.fresh 0 0 (!w.params.followText "set-order")) } := Heap.get?_push_size _ rfl
      have hT : Shared.TypeIs { s with heap := s.heap.push { cls := .type "set", dict := none, data := .set #[] 0 (.fresh 0 0 (!w.params.followText "set-order")) } } (.ref s.heap.objs.size) "set" := ⟨_, hS, rfl⟩
      have hli := F.called_set.init.lookup
      have hbi := F.called_set.init.bind (.ref s.heap.objs.size)
      repeat (any_goals (first | assumption | wp_step))
      refine codeAny_mono (codeAny_call_builtin (R := wants (fun r s₂ => r = .none ∧ ∃ h' tk c, s₂ = { s with heap := h', toks := tk } ∧ SetR w h' s.heap.objs.size (fun j => decide (j ∈ ns)) c ∧ c ≤ ns.length ∧
          (∀ b o, s.heap.get? b = some o → h'.get? b = some o)) E) F.called_set.init.plain F.entry_set_init (check_set_init_1 hT ?_)) fun r₂ s₂ hr₂ => ?_
      · obtain ⟨ol, hol, hcl, nl, hdl⟩ := hl
        obtain ⟨ocls, odict, odata, oslots⟩ := ol
        simp only at hcl hdl
        subst hcl; subst hdl
        have hol' : (s.heap.push { cls := .type "set", dict := none, data := .set #[] 0 (.fresh 0 0 (!w.params.followText "set-order")) }).get? l = some { cls := .type "list", dict := odict, data := .seq items nl, slots := oslots } := Heap.get?_push_of_some _ hol
        have hsls := F.sub_list_set
        have hslf := F.sub_list_frozenset
        have hne : (Value.type "list" == Value.type "dict") = false := by decide
        have hl1 : (s.heap.push { cls := .type "set", dict := none, data := .set #[] 0 (.fresh 0 0 (!w.params.followText "set-order")) }).IsList l items := ⟨_, hol', rfl, nl, rfl⟩
        unfold Builtin.«set.__init__» noKeywords Builtin.Frozenset.updateFrom
        generalize hPI : pyIter = PI
        wp_walk
        subst hPI
        refine wpAny_pyIter_list hl1 ?_
        refine wpAny_bind (wpAny_runValue ?_)
        have hlS : l < s.heap.objs.size := Heap.lt_size hol
        have hh3 : A.in1.in1.in1.handled = none := by simp [hh]
        have hneI : l ≠ (s.heap.push { cls := .type "set", dict := none, data := .set #[] 0 (.fresh 0 0 (!w.params.followText "set-order")) }).objs.size := by
          rw [Heap.size_push]; exact Nat.ne_of_lt (Nat.lt_succ_of_lt hlS)
        have hSf : s.heap.objs.size ∉ [(s.heap.push { cls := .type "set", dict := none, data := .set #[] 0 (.fresh 0 0 (!w.params.followText "set-order")) }).objs.size, l] := by
          rw [Heap.size_push]; simp only [List.mem_cons, List.mem_singleton, List.not_mem_nil, or_false, not_or]
          exact ⟨Nat.ne_of_lt (Nat.lt_succ_self _), Nat.ne_of_gt hlS⟩
        have hval : ∀ (i : Nat) (v : Value), items[i]? = some v → ∃ k t, ns[i]? = some k ∧ v = .int k t := fun i v hv => by
          obtain ⟨n, t, e1, e2⟩ := IntsAre.at hit i v (by rw [Array.getElem?_toList]; exact hv)
          exact ⟨n, t, e2, e1⟩
        refine set_update_ints ((Walks.list hh3 _ l hneI items).toS) s.heap.objs.size
          hSf ns hisz hb hval (items.size - 0) 0 _ (by omega) (Nat.zero_le _)
          ⟨⟨_, Heap.get?_push_size _ rfl, rfl, rfl⟩, (hl1.push _)⟩ ?hS0 ?hR
        case hS0 =>
          have hget : ((s.heap.push { cls := .type "set", dict := none, data := .set #[] 0 (.fresh 0 0 (!w.params.followText "set-order")) }).push { cls := .type "list_iterator", data := .fields #[.ref l, .int 0 0] }).get? s.heap.objs.size
              = some { cls := .type "set", dict := none, data := .set #[] 0 (.fresh 0 0 (!w.params.followText "set-order")) } := Heap.get?_push_of_some _ hS
          exact ⟨0, Nat.le_refl 0, setR_new_at hget⟩
        case hR =>
          intro s' c' hm hc' hS'
          obtain ⟨h', g2, d', tk', os'⟩ := s'
          have eg : g2 = s.gens := hm.gens
          have ed : d' = s.drawn := hm.drawn
          have eo : os' = s.os := hm.os
          subst eg; subst ed; subst eo
          show wpAny _ _ _ _ _ _
          refine wpAny_pure ?_
          show wpAny _ _ (ret Value.none) _ _ _
          rw [hisz] at hc'
          refine wpAny_pure ⟨rfl, h', tk', c', rfl, hS', hc', fun b o e => ?_⟩
          have hb0 : b < s.heap.objs.size := Heap.lt_size e
          have hb1 : b ≠ s.heap.objs.size := Nat.ne_of_lt hb0
          have hb2 : b ≠ (s.heap.push { cls := .type "set", dict := none, data := .set #[] 0 (.fresh 0 0 (!w.params.followText "set-order")) }).objs.size := by
            rw [Heap.size_push]; exact Nat.ne_of_lt (Nat.lt_succ_of_lt hb0)
          exact hm.heap b o (by simp only [List.mem_cons, List.mem_singleton, List.not_mem_nil, or_false, not_or]; exact ⟨hb1, hb2⟩) (Heap.get?_push_of_some _ (Heap.get?_push_of_some _ e))
      · cases r₂ with
        | error e => exact hr₂
        | ok fl₂ =>
          cases fl₂ with
          | ret r =>
            obtain ⟨rfl, h', tk, c', rfl, hS', hc', hk'⟩ := hr₂
            repeat (any_goals (first | assumption | wp_step))
            exact h _ _ _ hS' hc' hk'
          | _ => exact hr₂.elim
    | _ => exact hr.elim
end
variable {X : Cx}
def rSetOfI (K : PySem.W.Frag) (w : World) : List V → Hp → VK → Prop := fun xs H Q => ∃ (l : Addr) (ns : List Int), xs = [.ref l] ∧ SqL K H l (ns.map V.int) ∧ ns.length < 64 ∧ ∀ a c, H a = none → c ≤ ns.length → Q (.ref a) (upd H a (SetO w a (fun j => decide (j ∈ ns)) c))
theorem cr_setOfI (hc : X.calm = true) : CallR X (.type "set") (rSetOfI X.K X.w) := by
  intro pins s σ H xs us Q I r h
  obtain ⟨l, ks, rfl, hl, hf, q⟩ := h
  rw [Vals.ref1 r]
  obtain ⟨its, rv, pl, hz⟩ := I.list hl
  have hn : H s.heap.objs.size = none := I.hok.fresh (Nat.le_refl _)
  refine call_set_ints (P := X.prog) (w := X.w) ks (I.ok.hd hc) pl.isList (by simpa using ints_of_vals rv) (by unfold scanBound; omega) fun h' tk c R hc' k => ?_
  exact ⟨.ref s.heap.objs.size, upd H s.heap.objs.size (SetO X.w s.heap.objs.size _ c), I.laid (t' := tk) k (Nat.le_refl _) (setO_new R), rfl, q _ c hn hc'⟩
end NL

namespace NL
open PySem PySem.Spec PyProof.Rows L2
theorem cut_tl {x : V} {r : List V} : cutV (x :: r) (some 1) none = r := by
  unfold cutV
  rw [show HT.sIx (x :: r).length 0 (some 1) = min 1 (x :: r).length from HT.sIx_nat _ _ 1, HT.sIx_none, List.length_cons, show min 1 (r.length + 1) = 1 by omega]
  simp
theorem asc_lt {l : List Int} (h : l.Pairwise (· < ·)) : l.Nodup := h.imp fun {a b} h e => by omega
theorem newH {H : Hp} {p : Addr} (hp : H p = none) (o : HO) : ∃ H', upd H p o = H' ∧ Same H H' ∧ H' p = some o := ⟨_, rfl, same_new hp _, upd_same⟩
section
variable {P : Program} {w : World} {K : PySem.W.Frag} {mg : Str → Option Value} {base : Heap}
/-! ### _law_great -/
def spGreat : Sp := fun vs H Q _ => ∃ d : Addr, vs = [.ref d] ∧ Dr H d ∧ ∀ v A H', Go d H H' → ArIn H' A v → ArG A → Q v H'
theorem ok_law_great (T : Txt K mg) : FnOk P w K mg base CX0 2 T.a_law_great T.d_law_great P_law_great spGreat := by
  have G_law_take := ok_law_take (P := P) (w := w) (base := base) T
  refine T.F_law_great.ok sc_law_great (fun vs H Q E h => ?_) (fun cdv A outer s H vs Q E hr h => ?_)
  · obtain ⟨d, rfl, _⟩ := h
    rfl
  obtain ⟨d, rfl, hD, q⟩ := h
  refine ⟨_, (pss_cons (ps_set (i := 1) sc_law_great.nd rfl (Or.inl rfl) (pe_op op_add pe_int (pe_call G_law_take (hr.mono (by omega)) (by rfl) T.m_law_take T.F_law_take.kp T.b_law_take .nil pass0 (pa_cons (pv 0) (pa_cons pe_int pa_nil)))))
    (pss_cons (ps_set (i := 2) sc_law_great.nd rfl (Or.inl rfl) (pe_call G_law_take (hr.mono (by omega)) (by rfl) T.m_law_take T.F_law_take.kp T.b_law_take .nil pass0 (pa_cons (pv 0) (pa_cons (pv 1) pa_nil))))
    (pss_cons (ps_set (i := 3) sc_law_great.nd rfl (Or.inl rfl) (pe_call G_law_take (hr.mono (by omega)) (by rfl) T.m_law_take T.F_law_take.kp T.b_law_take .nil pass0 (pa_cons (pv 0) (pa_cons (pv 1) pa_nil))))
    (pss_cons (ps_set (i := 4) sc_law_great.nd rfl (Or.inl rfl) (pe_op op_add pe_int (pe_call G_law_take (hr.mono (by omega)) (by rfl) T.m_law_take T.F_law_take.kp T.b_law_take .nil pass0 (pa_cons (pv 0) (pa_cons (pe_ix ix_list (pe_lst (pa_cons pe_int (pa_cons pe_int pa_nil))) (pe_call G_law_take (hr.mono (by omega)) (by rfl) T.m_law_take T.F_law_take.kp T.b_law_take .nil pass0 (pa_cons (pv 0) (pa_cons pe_int pa_nil))) (fun _ _ => rfl)) pa_nil)))))
    (pss_cons (ps_set (i := 5) sc_law_great.nd rfl (Or.inl rfl) (pe_call G_law_take (hr.mono (by omega)) (by rfl) T.m_law_take T.F_law_take.kp T.b_law_take .nil pass0 (pa_cons (pv 0) (pa_cons pe_int pa_nil))))
    (pss_cons (ps_set (i := 6) sc_law_great.nd rfl (Or.inl rfl) (pe_lst pa_nil))
    (pss_cons (ps_for  PassesOwn.never rfl (pi_range1 (by rfl) T.z_range (pa_cons (pv 1) pa_nil)) (pg_name (i := 7) sc_law_great.nd rfl (Or.inl rfl))
    (pss_cons (ps_set (i := 8) sc_law_great.nd rfl (Or.inl rfl) (pe_lst (pa_cons (pe_tup (pa_cons (pe_op op_mod (pe_callTy call_int1 (by rfl) T.z_int (by decide +kernel) (pa_cons (pe_op op_add (pv 7) pe_int) pa_nil)) (pv 1)) pa_nil)) (pa_cons (pe_callTy call_tuple_of (by rfl) T.z_tuple (by decide +kernel) (pa_cons (pe_callB (cr_sortedSet rfl) (by rfl) T.z_sorted (by decide +kernel) (pa_cons (pe_callTy (cr_setOfI rfl) (by rfl) T.z_set (by decide +kernel) (pa_cons (pe_lst (pa_cons (pe_op op_mod (pe_callTy call_int1 (by rfl) T.z_int (by decide +kernel) (pa_cons (pe_op op_add (pe_op op_mul (pv 2) (pv 7)) (pv 3)) pa_nil)) (pv 1)) (pa_cons (pe_op op_mod (pe_callTy call_int1 (by rfl) T.z_int (by decide +kernel) (pa_cons (pe_op op_add (pe_op op_mul (pv 7) (pv 7)) (pv 2)) pa_nil)) (pv 1)) pa_nil))) pa_nil)) pa_nil)) pa_nil)) pa_nil))))
    (C8.pss_cut (ps_if (pt_cmpR op_eq (pe_op op_mod (pe_callTy call_int1 (by rfl) T.z_int (by decide +kernel) (pa_cons (pe_op op_add (pv 7) (pv 3)) pa_nil)) (pv 4)) pe_int (nomark _))
    (pss_one (ps_set (i := 8) sc_law_great.nd rfl (Or.inl rfl) (pe_slice sl_list (pv 8) (po_some pe_int) po_none)))
    pss_nil)
    (C8.pss_cut (ps_if (PW.pt (pw_and (pt_cmpR op_eq (pe_op op_mod (pe_callTy call_int1 (by rfl) T.z_int (by decide +kernel) (pa_cons (pe_op op_add (pv 7) (pv 2)) pa_nil)) (pe_op op_add (pv 4) pe_int)) pe_int (nomark _)) (pw_and1 (pt_cmpR op_gt (pv 5) pe_int (nomark _)))))
    (pss_one (ps_set (i := 8) sc_law_great.nd rfl (Or.inl rfl) (pe_ix ix_list (pe_lst (pa_cons (pe_lst (pa_cons (pe_tup (pa_cons (pe_un un_neg pe_int) (pa_cons (pv 7) pa_nil))) pa_nil)) (pa_cons (pe_lst pa_nil) (pa_cons (pe_lst (pa_cons (pe_tup (pa_cons (pe_un un_neg pe_int) pa_nil)) (pa_cons (pe_tup (pa_cons (pe_op op_mod (pe_callTy call_int1 (by rfl) T.z_int (by decide +kernel) (pa_cons (pe_op op_add (pv 7) pe_int) pa_nil)) (pv 1)) pa_nil)) pa_nil))) pa_nil)))) (pe_op op_sub (pv 5) pe_int) (fun _ _ => rfl))))
    pss_nil)
    (pss_one (ps_expr (pe_bm PySem.F.plainAttrs_list PySem.F.slot_list_append PySem.F.type_list_append mt_append (pv 6) (pa_cons (pe_callTy call_tuple_of (by rfl) T.z_tuple (by decide +kernel) (pa_cons (pv 8) pa_nil)) pa_nil))))))))
    (pss_one (ps_ret (pe_callTy call_tuple_of (by rfl) T.z_tuple (by decide +kernel) (pa_cons (pv 6) pa_nil))))))))))), ?_⟩
  refine ⟨_, rfl, d, 37, rfl, hD, by decide, fun u1 H1 g1 a1 b1 => ⟨_, _, rfl, rfl, ?_⟩⟩
  dsimp only
  generalize hN : (9 : Int) + u1 = N
  refine ⟨_, rfl, _, rfl, d, N, rfl, g1.dr, by omega, fun a H2 g2 a2 b2 => ?_⟩
  refine ⟨_, rfl, _, rfl, d, N, rfl, g2.dr, by omega, fun b H3 g3 a3 b3 => ?_⟩
  refine ⟨_, rfl, Nat.le_of_ble_eq_true rfl, fun l hl => ?_⟩
  have g3l := g3.trans (Go.new (o := .lst [.int 9, .int 60]) g3.dr hl)
  refine ⟨_, rfl, d, 2, rfl, g3l.dr, by decide, fun u2 H4 g4 a4 b4 => ?_⟩
  have el : H4 l = some (.lst ([9, 60].map V.int)) := g4.fr l _ (new_ne g3.dr hl) upd_same
  obtain ⟨m, hm, hmm⟩ := atI_map (f := V.int) (xs := ([9, 60] : List Int)) a4 b4
  have hm9 : m = 9 ∨ m = 60 := by simpa using hmm
  refine ⟨l, _, _, _, rfl, rfl, sqd el, hm, ?_⟩
  refine ⟨d, m, rfl, g4.dr, by omega, fun u3 H5 g5 a5 b5 => ⟨_, _, rfl, rfl, ?_⟩⟩
  dsimp only
  generalize hc : (3 : Int) + u3 = c
  refine ⟨_, rfl, d, 4, rfl, g5.dr, by decide, fun bad H6 g6 a6 b6 => ?_⟩
  have g16 := ((((g1.trans g2).trans g3l).trans g4).trans g5).trans g6
  refine ⟨Nat.zero_le _, fun p hp => ?_⟩
  have hpd := new_ne g6.dr hp
  have hp0 := g16.free hp
  refine ⟨_, rfl, N, rfl, by omega, by omega, for_range (lo := 0) (n := N.toNat) (fun (j : Nat) (σ : L2.St) (H' : Hp) => ∃ (xs : List V) (A' : Ar) (y7 y8 : Option V), σ = [some (.ref d), some (.int N), some (.int a), some (.int b), some (.int c), some (.int bad), some (.ref p), y7, y8] ∧ Go d H H' ∧ H' p = some (.lst xs) ∧ Each (PosIn H') A' xs ∧ A'.length = j ∧ ∀ os ∈ A', PosG N os) ?_ ?_ ?_⟩
  · exact ⟨[], [], none, none, rfl, g16.trans (Go.new g6.dr hp), upd_same, .nil, rfl, fun os h => nomatch h⟩
  · rintro j σ H7 hj ⟨xs, A', y7, y8, rfl, g7, e7, hxs, hA, hG⟩
    have hkN : (0 : Int) + (j : Int) < N := by omega
    have hN0 : 0 < N := by omega
    have md : ∀ z : Int, 0 ≤ z % N ∧ z % N < N := fun z => ⟨Int.emod_nonneg z (by omega), Int.emod_lt_of_pos z hN0⟩
    generalize hk : (0 : Int) + (j : Int) = k at hkN ⊢
    have hk0 : 0 ≤ k := by omega
    -- the two options
    refine ⟨_, rfl, _, _, rfl, rfl, .inl ⟨_, rfl, _, rfl, _, _, rfl, rfl, hN0, Nat.le_of_ble_eq_true rfl, fun t1 ht1 => ?_⟩⟩
    have s1 := same_new ht1 (.tup [V.int ((k + 1) % N)])
    have e1 : upd H7 t1 (.tup [V.int ((k + 1) % N)]) t1 = some (.tup [V.int ((k + 1) % N)]) := upd_same
    generalize upd H7 t1 (.tup [V.int ((k + 1) % N)]) = H8 at s1 e1 ⊢
    refine ⟨_, rfl, _, rfl, _, _, rfl, rfl, .inl ⟨by omega, by omega⟩, _, rfl, _, _, rfl, rfl, .inl ⟨_, rfl, _, rfl, _, _, rfl, rfl, hN0, ?_⟩⟩
    refine ⟨_, rfl, _, rfl, _, _, rfl, rfl, .inl ⟨by omega, by omega⟩, _, rfl, _, _, rfl, rfl, .inl ⟨_, rfl, _, rfl, _, _, rfl, rfl, hN0, ?_⟩⟩
    dsimp only
    generalize hx1 : (a * k + b) % N = x1
    generalize hx2 : (k * k + a) % N = x2
    have hb1 := md (a * k + b)
    have hb2 := md (k * k + a)
    rw [hx1] at hb1
    rw [hx2] at hb2
    refine ⟨Nat.le_of_ble_eq_true rfl, fun l1 hl1 => ⟨l1, [x1, x2], rfl, sqd upd_same, (by show 2 < 64; decide), fun s0 c1 hs0 hc1 => ?_⟩⟩
    have s2 := (same_new hl1 (.lst [V.int x1, V.int x2])).trans (same_new hs0 (SetO w s0 (fun j => decide (j ∈ [x1, x2])) c1))
    refine ⟨s0, _, c1, rfl, upd_same, Nat.lt_of_le_of_lt hc1 (by show 2 < 64; decide), fun ns q1 hasc hmem hlen hq1 => ?_⟩
    refine ⟨q1, _, rfl, .inl ⟨sqd upd_same, fun t2 ht2 => ?_⟩⟩
    obtain ⟨Ha, ea, sa, _⟩ := newH hq1 (.lst (ns.map V.int))
    rw [ea] at ht2 ⊢
    obtain ⟨Hb, eb, sb, et2⟩ := newH ht2 (.tup (ns.map V.int))
    rw [eb]
    refine ⟨Nat.le_of_ble_eq_true rfl, fun ol hol => ?_⟩
    obtain ⟨H9, e9, s9, e3⟩ := newH hol (.lst [V.ref t1, V.ref t2])
    rw [e9]
    have s4 := ((s2.trans sa).trans sb).trans s9
    have e2 := s9 _ _ et2
    have s79 := s1.trans s4
    have o1 : OptG N [(k + 1) % N] := .one (by have := md (k + 1); omega) (md (k + 1)).2
    have o2 : OptG N ns := by
      have hmm : ∀ s ∈ ns, s = x1 ∨ s = x2 := fun s hs => by
        have := (hmem s).mp hs
        simpa using this
      refine ⟨fun e => ?_, by rw [hlen]; exact Nat.le_trans hc1 (by show 2 ≤ 60; decide), fun s hs => ?_, hasc⟩
      · have := (hmem x1).mpr (by simp)
        rw [e] at this
        cases this
      · rcases hmm s hs with rfl | rfl <;> omega
    have r1 : OptIn H9 [(k + 1) % N] (.ref t1) := ⟨t1, rfl, s4 _ _ e1⟩
    have r2 : OptIn H9 ns (.ref t2) := ⟨t2, rfl, e2⟩
    let I : L2.St → Hp → Prop := fun σ H' => ∃ (os : Pos') (ol : Addr) (zs : List V), σ = [some (.ref d), some (.int N), some (.int a), some (.int b), some (.int c), some (.int bad), some (.ref p), some (.int k), some (.ref ol)] ∧ Same H7 H' ∧ H' ol = some (.lst zs) ∧ Each (OptIn H') os zs ∧ PosG N os
    -- the first one left out
    refine ⟨I, ?_, ?_⟩
    · refine ⟨_, rfl, _, rfl, _, _, rfl, rfl, .inl ⟨_, rfl, _, rfl, _, _, rfl, rfl, by omega, rfl, _, rfl, ?_⟩⟩
      refine ite2 (fun z => ?_) (fun z => ?_)
      · refine ⟨_, rfl, 1, rfl, ol, _, rfl, sqd e3, fun om hom => ?_⟩
        rw [cut_tl]
        have s5 := same_new hom (.lst [V.ref t2])
        exact ⟨[ns], om, _, rfl, s79.trans s5, upd_same, .cons (r2.tp (.same s5)) .nil, Nat.le_of_ble_eq_true rfl, fun o ho => by rw [List.mem_singleton.mp ho]; exact o2⟩
      · exact ⟨[_, ns], ol, _, rfl, s79, e3, .cons r1 (.cons r2 .nil), Nat.le_of_ble_eq_true rfl, fun o ho => by
          rcases List.mem_cons.mp ho with rfl | ho
          · exact o1
          · rw [List.mem_singleton.mp ho]; exact o2⟩
    rintro σ H10 ⟨os, ol2, zs, rfl, s10, e10, hzs, hos⟩
    -- bad ones
    refine ⟨I, ?_, ?_⟩
    · refine ⟨_, rfl, _, rfl, _, _, rfl, rfl, .inl ⟨_, rfl, _, rfl, _, _, rfl, rfl, _, _, rfl, rfl, by omega, rfl, _, rfl, ?_⟩⟩
      have keep : I [some (.ref d), some (.int N), some (.int a), some (.int b), some (.int c), some (.int bad), some (.ref p), some (.int k), some (.ref ol2)] H10 := ⟨os, ol2, zs, rfl, s10, e10, hzs, hos⟩
      refine ite2 (fun z => ?_) (fun z => ?_)
      · refine ⟨_, rfl, _, _, rfl, rfl, _, rfl, ?_⟩
        refine ite2 (fun z => ?_) (fun z => keep)
        have hbad : 0 < bad := of_decide_eq_true z
        refine ⟨_, rfl, _, rfl, Nat.le_of_ble_eq_true rfl, fun ta hta => ?_⟩
        obtain ⟨Ha, ea, sa, ka⟩ := newH hta (.tup [V.int (-1), V.int k])
        rw [show upd H10 ta (.tup [V.int (-1), V.int k]) = Ha from ea]
        refine ⟨Nat.le_of_ble_eq_true rfl, fun la hla => ?_⟩
        obtain ⟨Hb, eb, sb, kb⟩ := newH hla (.lst [V.ref ta])
        rw [eb]
        refine ⟨Nat.zero_le _, fun lb hlb => ?_⟩
        obtain ⟨Hc, ec, sc, kc⟩ := newH hlb (.lst [])
        rw [ec]
        refine ⟨_, rfl, Nat.le_of_ble_eq_true rfl, fun tb htb => ?_⟩
        obtain ⟨Hd, ed, sd, kd⟩ := newH htb (.tup [V.int (-1)])
        rw [show upd Hc tb (.tup [V.int (-1)]) = Hd from ed]
        refine ⟨_, rfl, _, _, rfl, rfl, .inl ⟨_, rfl, _, rfl, _, _, rfl, rfl, hN0, Nat.le_of_ble_eq_true rfl, fun tc htc => ?_⟩⟩
        obtain ⟨He, ee, se, ke⟩ := newH htc (.tup [V.int ((k + 2) % N)])
        rw [show upd Hd tc (.tup [V.int ((k + 2) % N)]) = He from ee]
        refine ⟨Nat.le_of_ble_eq_true rfl, fun lc hlc => ?_⟩
        obtain ⟨Hf, ef, sf, kf⟩ := newH hlc (.lst [V.ref tb, V.ref tc])
        rw [ef]
        refine ⟨Nat.le_of_ble_eq_true rfl, fun lo hlo => ?_⟩
        obtain ⟨Hg, eg, sg, kg⟩ := newH hlo (.lst [V.ref la, V.ref lb, V.ref lc])
        rw [eg]
        have sag := ((((((sa.trans sb).trans sc).trans sd).trans se).trans sf).trans sg)
        have m2 := md (k + 2)
        refine ⟨_, rfl, _, _, rfl, rfl, ?_⟩
        have hcase : bad = 1 ∨ bad = 2 ∨ bad = 3 := by omega
        rcases hcase with rfl | rfl | rfl
        · refine ⟨lo, _, _, _, rfl, rfl, sqd kg, atI0, ?_⟩
          refine ⟨[[-1, k]], la, _, rfl, s10.trans sag, (((((sc.trans sd).trans se).trans sf).trans sg)) _ _ kb, .cons ⟨ta, rfl, ((((((sb.trans sc).trans sd).trans se).trans sf).trans sg)) _ _ ka⟩ .nil, Nat.le_of_ble_eq_true rfl, fun o ho => ?_⟩
          rw [List.mem_singleton.mp ho]
          refine ⟨by simp, by simp, fun s hs => ?_, ?_⟩
          · simp only [List.mem_cons, List.not_mem_nil, or_false] at hs
            rcases hs with rfl | rfl <;> omega
          · refine List.pairwise_cons.mpr ⟨fun x hx => ?_, List.pairwise_singleton _ _⟩
            rw [List.mem_singleton.mp hx]
            omega
        · refine ⟨lo, _, _, _, rfl, rfl, sqd kg, atI1, ?_⟩
          exact ⟨[], lb, _, rfl, s10.trans sag, ((((sd.trans se).trans sf).trans sg)) _ _ kc, .nil, Nat.zero_le _, fun o ho => nomatch ho⟩
        · refine ⟨lo, _, _, _, rfl, rfl, sqd kg, (atI_nat (j := 2) rfl), ?_⟩
          refine ⟨[[-1], [(k + 2) % N]], lc, _, rfl, s10.trans sag, sg _ _ kf, .cons ⟨tb, rfl, ((se.trans sf).trans sg) _ _ kd⟩ (.cons ⟨tc, rfl, (sf.trans sg) _ _ ke⟩ .nil), Nat.le_of_ble_eq_true rfl, fun o ho => ?_⟩
          rcases List.mem_cons.mp ho with rfl | ho
          · exact .one (by omega) (by omega)
          · rw [List.mem_singleton.mp ho]
            exact .one (by omega) (by omega)
      · exact iteF keep
    rintro σ H11 ⟨os, ol3, zs, rfl, s11, e11, hzs, hos⟩
    have e11p := s11 _ _ e7
    have hxl := hxs.1
    refine ⟨_, rfl, .inl ⟨rfl, _, sqd e11p⟩, _, rfl, ol3, zs, rfl, .inl ⟨sqd e11, fun t ht => ?_⟩⟩
    have st := same_new ht (.tup zs)
    have ept := st _ _ e11p
    refine ⟨p, xs, _, rfl, rfl, ept, big' (by omega), ?_⟩
    refine ⟨xs ++ [.ref t], A' ++ [os], some (.int k), some (.ref ol3), rfl, ((g7.trans (.same g7.dr s11)).trans (.same (g7.trans (.same g7.dr s11)).dr st)).put2 hp0 hpd, upd_same, ?_, ?_, ?_⟩
    · have tp : Tp H7 (upd (upd H11 t (.tup zs)) p (.lst (xs ++ [.ref t]))) := tp_put ((Tp.same s11).trans (Tp.same st)) ept
      refine (hxs.mono fun o x => PosIn.tp tp).snoc ⟨t, zs, rfl, ?_, ?_⟩
      · rw [upd_ne (fun e => by rw [e, e11p] at ht; cases ht)]
        exact upd_same
      · exact hzs.mono fun o x => OptIn.tp (tp_put (Tp.same st) ept)
    · rw [List.length_append, hA]
      rfl
    · intro o ho
      rcases List.mem_append.mp ho with ho | ho
      · exact hG o ho
      · rw [List.mem_singleton.mp ho]
        exact hos
  · rintro σ H7 ⟨xs, A', y7, y8, rfl, g7, e7, hxs, hA, hG⟩
    refine ⟨_, rfl, p, xs, rfl, .inl ⟨sqd e7, fun t ht => ?_⟩⟩
    have st := same_new ht (.tup xs)
    refine q _ A' _ (g7.trans (.same g7.dr st)) ⟨t, xs, rfl, upd_same, hxs.mono fun os x => PosIn.tp (.same st)⟩ ⟨by omega, fun os h => ?_⟩
    rw [show (A'.length : Int) = N by omega]
    exact hG os h
end
end NL

namespace NL
open PySem PySem.Spec PyProof.Rows L2
theorem cut_pre {xs : List V} {k : Nat} : cutV xs none (some (k : Int)) = xs.take k := by
  unfold cutV
  rw [HT.sIx_none, show HT.sIx xs.length xs.length (some (k : Int)) = min k xs.length from HT.sIx_nat _ _ _, List.drop_zero, Nat.sub_zero]
  by_cases h : k ≤ xs.length
  · rw [Nat.min_eq_left h]
  · rw [Nat.min_eq_right (by omega), List.take_length, List.take_of_length_le (by omega)]
theorem slA_of {K : PySem.W.Frag} {a : Addr} {xs : List V} {lo hi : Option Int} {H : Hp} {Q : VK} (ha : H a = some (.tup xs)) (q : ∀ p H', Same H H' → H' p = some (.tup (cutV xs lo hi)) → Q (.ref p) H') : rSlA K (.ref a) lo hi H Q := by
  refine ⟨a, xs, rfl, sqt ha, fun h => ?_, fun _ p hp => q p _ (same_new hp _) upd_same⟩
  refine q a H (Same.refl H) ?_
  have : cutV xs lo hi = xs := by
    unfold cutV
    rw [h.1, h.2, List.drop_zero, Nat.sub_zero]
    exact List.take_length
  rw [this]
  exact ha
theorem catA_of {K : PySem.W.Frag} {a b : Addr} {xs ys : List V} {H : Hp} {Q : VK} (ha : H a = some (.tup xs)) (hb : H b = some (.tup ys)) (hl : xs.length + ys.length ≤ 1000) (q : ∀ p H', Same H H' → H' p = some (.tup (xs ++ ys)) → Q (.ref p) H') : rCatA K (.ref a) (.ref b) H Q := by
  refine ⟨a, b, xs, ys, rfl, rfl, sqt ha, sqt hb, big (by omega), fun h => ?_, fun _ h => ?_, fun _ _ p hp => ?_⟩
  · exact q b H (Same.refl H) (by rw [h, List.nil_append]; exact hb)
  · exact q a H (Same.refl H) (by rw [h, List.append_nil]; exact ha)
  · exact q p _ (same_new hp _) upd_same
theorem rg_ints (a b : Int) : rgV a b = ((List.range (b - a).toNat).map fun i : Nat => a + (i : Int)).map V.int := by
  unfold rgV
  rw [List.map_map]
  rfl
theorem rg_good {u n : Int} (h0 : 0 ≤ u) (h1 : u < 2) (hn : 0 < n) (hm : n ≤ 46) : OptG n ((List.range (n - (0 - u)).toNat).map fun i : Nat => (0 - u) + (i : Int)) := by
  refine ⟨fun e => ?_, ?_, fun s hs => ?_, ?_⟩
  · have h := congrArg List.length e
    rw [List.length_map, List.length_range, List.length_nil] at h
    omega
  · rw [List.length_map, List.length_range]
    omega
  · obtain ⟨i, hi, rfl⟩ := List.mem_map.mp hs
    have := List.mem_range.mp hi
    omega
  · rw [List.pairwise_map]
    exact List.pairwise_lt_range.imp fun {a b} h => by omega
section
variable {P : Program} {w : World} {K : PySem.W.Frag} {mg : Str → Option Value} {base : Heap}
/-! ### _law_arena -/
def spArena : Sp := fun vs H Q _ => ∃ (d : Addr) (most : Int), vs = [.ref d, .int most] ∧ Dr H d ∧ 0 ≤ most ∧ most ≤ 45 ∧ ∀ v A H', Go d H H' → ArIn H' A v → ArG A → Q v H'
theorem ok_law_arena (T : Txt K mg) : FnOk P w K mg base CX0 3 T.a_law_arena T.d_law_arena P_law_arena spArena := by
  have G_law_take := ok_law_take (P := P) (w := w) (base := base) T
  have G_law_great := ok_law_great (P := P) (w := w) (base := base) T
  refine T.F_law_arena.ok sc_law_arena (fun vs H Q E h => ?_) (fun cdv A outer s H vs Q E hr h => ?_)
  · obtain ⟨d, most, rfl, _⟩ := h
    rfl
  obtain ⟨d, most, rfl, hD, m0, m1, q⟩ := h
  refine ⟨_, (pss_cons (ps_set (i := 2) sc_law_arena.nd rfl (Or.inl rfl) (pe_call G_law_take (hr.mono (by omega)) (by rfl) T.m_law_take T.F_law_take.kp T.b_law_take .nil pass0 (pa_cons (pv 0) (pa_cons pe_int pa_nil))))
    (pss_cons (ps_if (pt_cmpR op_eq (pv 2) pe_int (nomark _))
    (pss_one (ps_ret (pe_call G_law_great (hr.mono (by omega)) (by rfl) T.m_law_great T.F_law_great.kp T.b_law_great .nil pass0 (pa_cons (pv 0) pa_nil))))
    pss_nil)
    (pss_cons (ps_set (i := 3) sc_law_arena.nd rfl (Or.inl rfl) (pe_ix ix_list (pe_lst (pa_cons pe_int (pa_cons pe_int (pa_cons pe_int pa_nil)))) (pe_call G_law_take (hr.mono (by omega)) (by rfl) T.m_law_take T.F_law_take.kp T.b_law_take .nil pass0 (pa_cons (pv 0) (pa_cons pe_int pa_nil))) (fun _ _ => rfl)))
    (pss_cons (ps_set (i := 4) sc_law_arena.nd rfl (Or.inl rfl) (pe_ix ix_list (pe_lst (pa_cons (pe_lst (pa_cons pe_int (pa_cons pe_int (pa_cons pe_int (pa_cons pe_int (pa_cons pe_int (pa_cons pe_int pa_nil))))))) (pa_cons (pe_lst (pa_cons pe_int (pa_cons pe_int (pa_cons pe_int (pa_cons pe_int (pa_cons pe_int (pa_cons pe_int pa_nil))))))) pa_nil))) (pe_call G_law_take (hr.mono (by omega)) (by rfl) T.m_law_take T.F_law_take.kp T.b_law_take .nil pass0 (pa_cons (pv 0) (pa_cons pe_int pa_nil))) (fun _ _ => rfl)))
    (pss_cons (ps_set (i := 5) sc_law_arena.nd rfl (Or.inr rfl) (pe_call G_law_take (hr.mono (by omega)) (by rfl) T.m_law_take T.F_law_take.kp T.b_law_take .nil pass0 (pa_cons (pv 0) (pa_cons (pe_op op_add (pv 1) pe_int) pa_nil))))
    (pss_cons (ps_set (i := 6) sc_law_arena.nd rfl (Or.inl rfl) (pe_lst pa_nil))
    (pss_cons (ps_for  PassesOwn.never rfl (pi_range1 (by rfl) T.z_range (pa_cons (pv 5) pa_nil)) (pg_name (i := 7) sc_law_arena.nd rfl (Or.inl rfl))
    (pss_cons (ps_set (i := 8) sc_law_arena.nd rfl (Or.inl rfl) (pe_lst pa_nil))
    (pss_cons (ps_for  PassesOwn.never rfl (pi_range1 (by rfl) T.z_range (pa_cons (pe_ix ix_list (pv 4) (pe_call G_law_take (hr.mono (by omega)) (by rfl) T.m_law_take T.F_law_take.kp T.b_law_take .nil pass0 (pa_cons (pv 0) (pa_cons pe_int pa_nil))) (fun _ _ => rfl)) pa_nil)) (pg_name (i := 9) sc_law_arena.nd rfl (Or.inl rfl))
    (pss_cons (ps_set (i := 10) sc_law_arena.nd rfl (Or.inl rfl) (pe_lst pa_nil))
    (pss_cons (ps_for  PassesOwn.never rfl (pi_range1 (by rfl) T.z_range (pa_cons (pe_op op_add pe_int (pe_ix ix_list (pe_lst (pa_cons pe_int (pa_cons pe_int (pa_cons pe_int (pa_cons pe_int (pa_cons pe_int (pa_cons pe_int pa_nil))))))) (pe_call G_law_take (hr.mono (by omega)) (by rfl) T.m_law_take T.F_law_take.kp T.b_law_take .nil pass0 (pa_cons (pv 0) (pa_cons pe_int pa_nil))) (fun _ _ => rfl))) pa_nil)) (pg_name (i := 11) sc_law_arena.nd rfl (Or.inl rfl))
    (pss_cons (ps_set (i := 12) sc_law_arena.nd rfl (Or.inl rfl) (pe_call G_law_take (hr.mono (by omega)) (by rfl) T.m_law_take T.F_law_take.kp T.b_law_take .nil pass0 (pa_cons (pv 0) (pa_cons (pe_op op_mul (pv 5) (pv 3)) pa_nil))))
    (pss_cons (ps_set (i := 13) sc_law_arena.nd rfl (Or.inl rfl) (pe_op op_fdiv (pv 12) (pv 3)))
    (C8.pss_cut (ps_if (pt_cmpR op_eq (pe_op op_mod (pe_callTy call_int1 (by rfl) T.z_int (by decide +kernel) (pa_cons (pv 12) pa_nil)) (pv 3)) pe_int (nomark _))
    (pss_one (ps_set (i := 13) sc_law_arena.nd rfl (Or.inl rfl) (pe_un un_neg pe_int)))
    pss_nil)
    (pss_one (ps_if (pt_cmpR op_notIn_seq (pv 13) (pv 10) (by rfl))
    (pss_one (ps_expr (pe_bm PySem.F.plainAttrs_list PySem.F.slot_list_append PySem.F.type_list_append mt_append (pv 10) (pa_cons (pv 13) pa_nil))))
    pss_nil))))))
    (pss_one (ps_expr (pe_bm PySem.F.plainAttrs_list PySem.F.slot_list_append PySem.F.type_list_append mt_append (pv 8) (pa_cons (pe_callTy call_tuple_of (by rfl) T.z_tuple (by decide +kernel) (pa_cons (pe_callB (cr_sorted) (by rfl) T.z_sorted (by decide +kernel) (pa_cons (pv 10) pa_nil)) pa_nil)) pa_nil)))))))
    (pss_one (ps_expr (pe_bm PySem.F.plainAttrs_list PySem.F.slot_list_append PySem.F.type_list_append mt_append (pv 6) (pa_cons (pe_callTy call_tuple_of (by rfl) T.z_tuple (by decide +kernel) (pa_cons (pv 8) pa_nil)) pa_nil)))))))
    (C8.pss_cut (ps_if (PW.pt (pw_and (pt_cmpR op_gt (pv 5) pe_int (nomark _)) (pw_and1 (pt_cmpR op_eq (pe_call G_law_take (hr.mono (by omega)) (by rfl) T.m_law_take T.F_law_take.kp T.b_law_take .nil pass0 (pa_cons (pv 0) (pa_cons pe_int pa_nil))) pe_int (nomark _)))))
    (pss_cons (ps_set (i := 14) sc_law_arena.nd rfl (Or.inr rfl) (pe_call G_law_take (hr.mono (by omega)) (by rfl) T.m_law_take T.F_law_take.kp T.b_law_take .nil pass0 (pa_cons (pv 0) (pa_cons (pv 5) pa_nil))))
    (pss_cons (ps_set (i := 15) sc_law_arena.nd rfl (Or.inl rfl) (pe_op op_cat (pe_lst (pa_cons (pe_tupRg rfl (by rfl) T.z_tuple (prg_2 (by rfl) T.z_range (pe_op op_sub pe_int (pe_call G_law_take (hr.mono (by omega)) (by rfl) T.m_law_take T.F_law_take.kp T.b_law_take .nil pass0 (pa_cons (pv 0) (pa_cons pe_int pa_nil)))) (pv 5))) pa_nil)) (pe_lc (own := [("j", 9)]) (g := (gName 9)) (tt := tYes) rfl sc_law_arena.nd (pi_range1 (by rfl) T.z_range (pa_cons pe_int pa_nil)) (blkOk_by (N := N_law_arena) (sc := defScope s_law_arena) (by decide +kernel)) (fun _ _ _ _ _ => (pg_name (i := 9) sc_law_arena.nd rfl (Or.inl rfl))) (fun _ _ _ _ _ => pts_nil) (fun _ _ _ _ _ => (pe_tup (pa_cons (pe_op op_mod (pe_callTy call_int1 (by rfl) T.z_int (by decide +kernel) (pa_cons (pe_op op_add (pe_op op_mul (pv 9) (pv 14)) (pv 9)) pa_nil)) (pv 5)) pa_nil))))))
    (pss_one (ps_asg (pe_slice sl_tupA (pe_op op_catA (pe_ix ix_list (pv 6) (pv 14) (fun _ _ => rfl)) (pe_callTy call_tuple_of (by rfl) T.z_tuple (by decide +kernel) (pa_cons (pv 15) pa_nil))) po_none (po_some pe_int)) (pg_sub (pv 6) (pv 14) set_list)))))
    pss_nil)
    (pss_one (ps_ret (pe_callTy call_tuple_of (by rfl) T.z_tuple (by decide +kernel) (pa_cons (pv 6) pa_nil)))))))))))), ?_⟩
  refine ⟨_, rfl, d, 12, rfl, hD, by decide, fun sh H1 g1 _ _ => ?_⟩
  refine ⟨_, rfl, rfl, _, rfl, ?_⟩
  refine ite2 (fun z => ?_) (fun z => ?_)
  · exact ⟨_, rfl, d, rfl, g1.dr, fun v A H' g hA hG => q v A H' (g1.trans g) hA hG⟩
  -- how rare it is to be out
  refine ⟨Nat.le_of_ble_eq_true rfl, fun l hl => ?_⟩
  have g1l := g1.trans (Go.new (o := .lst [.int 4, .int 14, .int 60]) g1.dr hl)
  refine ⟨_, rfl, d, 3, rfl, g1l.dr, by decide, fun u2 H2 g2 a2 b2 => ?_⟩
  have el : H2 l = some (.lst ([4, 14, 60].map V.int)) := g2.fr l _ (new_ne g1.dr hl) upd_same
  obtain ⟨rare, hra, hrm⟩ := atI_map (f := V.int) (xs := ([4, 14, 60] : List Int)) a2 b2
  have hr3 : 0 < rare ∧ rare ≤ 60 := by
    simp only [List.mem_cons, List.not_mem_nil, or_false] at hrm
    omega
  refine ⟨l, _, _, _, rfl, rfl, sqd el, hra, ?_⟩
  have g12 := g1l.trans g2
  -- how many options
  refine ⟨Nat.le_of_ble_eq_true rfl, fun l1 hl1 => ?_⟩
  obtain ⟨Ha, ea, sa, ka⟩ := newH hl1 (.lst [.int 0, .int 1, .int 1, .int 2, .int 2, .int 3])
  rw [ea]
  refine ⟨Nat.le_of_ble_eq_true rfl, fun l2 hl2 => ?_⟩
  obtain ⟨Hb, eb, sb, kb⟩ := newH hl2 (.lst [.int 1, .int 1, .int 2, .int 2, .int 3, .int 4])
  rw [eb]
  refine ⟨Nat.le_of_ble_eq_true rfl, fun l3 hl3 => ?_⟩
  obtain ⟨Hc, ec, sc, kc⟩ := newH hl3 (.lst [.ref l1, .ref l2])
  rw [ec]
  have gc := g12.trans (.same g12.dr ((sa.trans sb).trans sc))
  refine ⟨_, rfl, d, 2, rfl, gc.dr, by decide, fun u3 H3 g3 a3 b3 => ?_⟩
  have g13 := gc.trans g3
  have nl1 : l1 ≠ d := new_ne g12.dr hl1
  have nl2 : l2 ≠ d := new_ne (g12.trans (.same g12.dr sa)).dr hl2
  have nl3 : l3 ≠ d := new_ne (g12.trans (.same g12.dr (sa.trans sb))).dr hl3
  obtain ⟨ml, M, nml, hmat, eml, hM6, hMb⟩ : ∃ (ml : Addr) (M : List Int), ml ≠ d ∧ atI [V.ref l1, V.ref l2] u3 = some (.ref ml) ∧ H3 ml = some (.lst (M.map V.int)) ∧ M.length = 6 ∧ ∀ x ∈ M, 0 ≤ x ∧ x ≤ 4 := by
    have hc : u3 = 0 ∨ u3 = 1 := by omega
    rcases hc with rfl | rfl
    · exact ⟨l1, [0, 1, 1, 2, 2, 3], nl1, atI0, g3.fr l1 _ nl1 ((sb.trans sc) _ _ ka), rfl, by decide⟩
    · exact ⟨l2, [1, 1, 2, 2, 3, 4], nl2, atI1, g3.fr l2 _ nl2 (sc _ _ kb), rfl, by decide⟩
  refine ⟨l3, _, _, _, rfl, rfl, sqd (g3.fr l3 _ nl3 kc), hmat, ?_⟩
  refine ⟨_, rfl, _, rfl, _, _, rfl, rfl, d, _, rfl, g3.dr, by omega, fun n H4 g4 n0 n1 => ?_⟩
  have g14 := g13.trans g4
  have eml4 := g4.fr ml _ nml eml
  have n46 : n ≤ 46 := by
    have : n < most + 1 := n1
    omega
  refine ⟨Nat.zero_le _, fun p hp => ?_⟩
  have hpd := new_ne g4.dr hp
  have hp0 := g14.free hp
  obtain ⟨H5, e5, s5, k5⟩ := newH hp (.lst [])
  rw [e5]
  have g15 := g14.trans (.same g4.dr s5)
  have eml5 := s5 _ _ eml4
  have npm : p ≠ ml := fun e => by
    rw [e, eml4] at hp
    cases hp
  refine ⟨_, rfl, n, rfl, by omega, by omega, for_range (lo := 0) (n := n.toNat) (fun (j : Nat) (σ : L2.St) (H' : Hp) => ∃ (xs : List V) (A' : Ar) (y7 y8 y9 y10 y11 y12 y13 : Option V), σ = [some (.ref d), some (.int most), some (.int sh), some (.int rare), some (.ref ml), some (.int n), some (.ref p), y7, y8, y9, y10, y11, y12, y13, none, none] ∧ Go d H H' ∧ H' ml = some (.lst (M.map V.int)) ∧ H' p = some (.lst xs) ∧ Each (PosIn H') A' xs ∧ A'.length = j ∧ ∀ os ∈ A', PosG n os) ?_ ?_ ?_⟩
  · exact ⟨[], [], none, none, none, none, none, none, none, rfl, g15, eml5, k5, .nil, rfl, fun os h => nomatch h⟩
  · rintro j σ H7 hj ⟨xs, A', y7, y8, y9, y10, y11, y12, y13, rfl, g7, em7, e7, hxs, hA, hG⟩
    have hn0 : 0 < n := by omega
    generalize hk : (0 : Int) + (j : Int) = k
    refine ⟨Nat.zero_le _, fun ol hol => ?_⟩
    have nol := new_ne g7.dr hol
    obtain ⟨H8, e8, s8, k8⟩ := newH hol (.lst [])
    rw [e8]
    have g78 := Go.same g7.dr s8
    refine ⟨_, rfl, _, rfl, d, 6, rfl, g78.dr, by decide, fun u4 H9 g9 a4 b4 => ?_⟩
    have em9 := g9.fr ml _ nml (s8 _ _ em7)
    obtain ⟨mm, hmm, hmmem⟩ := atI_map (f := V.int) (xs := M) a4 (by rw [hM6]; exact b4)
    have hmb := hMb mm hmmem
    refine ⟨ml, _, _, _, rfl, rfl, sqd em9, hmm, mm, rfl, by omega, by omega, ?_⟩
    have g79 := g78.trans g9
    have e9p := g9.fr p _ hpd (s8 _ _ e7)
    have e9o := g9.fr ol _ nol k8
    have hol7 : H7 ol = none := hol
    refine for_range (lo := 0) (n := mm.toNat) (fun (i : Nat) (σ : L2.St) (H' : Hp) => ∃ (zs : List V) (os : Pos') (y9 y10 y11 y12 y13 : Option V), σ = [some (.ref d), some (.int most), some (.int sh), some (.int rare), some (.ref ml), some (.int n), some (.ref p), some (.int k), some (.ref ol), y9, y10, y11, y12, y13, none, none] ∧ Go d H7 H' ∧ H' ol = some (.lst zs) ∧ Each (OptIn H') os zs ∧ os.length = i ∧ ∀ o ∈ os, OptG n o) ?_ ?_ ?_
    · exact ⟨[], [], y9, y10, y11, y12, y13, rfl, g79, e9o, .nil, rfl, fun o h => nomatch h⟩
    · rintro i σ H10 hi ⟨zs, os, y9, y10, y11, y12, y13, rfl, g10, e10, hzs, hos, hG2⟩
      generalize hk2 : (0 : Int) + (i : Int) = k2
      refine ⟨Nat.zero_le _, fun fl hfl => ?_⟩
      have nfl := new_ne g10.dr hfl
      obtain ⟨H11, e11, s11, k11⟩ := newH hfl (.lst [])
      rw [e11]
      have ga := Go.same g10.dr s11
      refine ⟨Nat.le_of_ble_eq_true rfl, fun l5 hl5 => ?_⟩
      obtain ⟨H12, e12, s12, k12⟩ := newH hl5 (.lst [.int 0, .int 0, .int 1, .int 1, .int 2, .int 3])
      rw [e12]
      have gb := ga.trans (.same ga.dr s12)
      refine ⟨_, rfl, d, 6, rfl, gb.dr, by decide, fun u5 H13 g13' a5 b5 => ?_⟩
      have n5 := new_ne ga.dr hl5
      obtain ⟨mf, hmf, hmfm⟩ := atI_map (f := V.int) (xs := ([0, 0, 1, 1, 2, 3] : List Int)) a5 b5
      have hmf3 : 0 ≤ mf ∧ mf ≤ 3 := by
        simp only [List.mem_cons, List.not_mem_nil, or_false] at hmfm
        omega
      refine ⟨l5, _, _, _, rfl, rfl, sqd (g13'.fr l5 _ n5 k12), hmf, _, _, rfl, rfl, 1 + mf, rfl, by omega, by omega, ?_⟩
      have gc2 := gb.trans g13'
      have ef13 := g13'.fr fl _ nfl (s12 _ _ k11)
      refine for_range (lo := 0) (n := (1 + mf).toNat) (fun (i : Nat) (σ : L2.St) (H' : Hp) => ∃ (fs : List Int) (y11 y12 y13 : Option V), σ = [some (.ref d), some (.int most), some (.int sh), some (.int rare), some (.ref ml), some (.int n), some (.ref p), some (.int k), some (.ref ol), some (.int k2), some (.ref fl), y11, y12, y13, none, none] ∧ Go d H10 H' ∧ H' fl = some (.lst (fs.map V.int)) ∧ fs.Nodup ∧ fs.length ≤ i ∧ (∀ s ∈ fs, -1 ≤ s ∧ s < n) ∧ (0 < i → fs ≠ [])) ?_ ?_ ?_
      · exact ⟨[], y11, y12, y13, rfl, gc2, ef13, List.nodup_nil, Nat.zero_le _, fun s h => (nomatch h), fun h => absurd h (by omega)⟩
      · rintro t σ H14 ht ⟨fs, y11, y12, y13, rfl, g14', e14, hnd, hlen, hmem, hne⟩
        generalize hk3 : (0 : Int) + (t : Int) = k3
        have hpos : 0 < n * rare := Int.mul_pos hn0 hr3.1
        refine ⟨_, rfl, _, rfl, _, rfl, _, _, rfl, rfl, .inl ⟨by omega, by omega⟩, d, n * rare, rfl, g14'.dr, hpos, fun dr H15 g15' d0 d1 => ?_⟩
        refine ⟨_, rfl, _, rfl, _, _, rfl, rfl, ⟨hr3.1, by omega⟩, ?_⟩
        have hq0 : 0 ≤ dr / rare := Int.ediv_nonneg d0 (by omega)
        have hq1 : dr / rare < n := Int.ediv_lt_of_lt_mul hr3.1 d1
        have e15 := g15'.fr fl _ nfl e14
        have g1015 := g14'.trans g15'
        have fin : ∀ sc : Int, -1 ≤ sc → sc < n → ∀ (b : Bool), b = decide (sc ∈ fs) → True := fun _ _ _ _ _ => trivial
        refine ⟨fun σ H' => ∃ sc : Int, σ = [some (.ref d), some (.int most), some (.int sh), some (.int rare), some (.ref ml), some (.int n), some (.ref p), some (.int k), some (.ref ol), some (.int k2), some (.ref fl), some (.int k3), some (.int dr), some (.int sc), none, none] ∧ H' = H15 ∧ -1 ≤ sc ∧ sc < n, ?_, ?_⟩
        · refine ⟨_, rfl, .inl ⟨_, rfl, _, rfl, _, _, rfl, rfl, hr3.1, rfl, _, rfl, ?_⟩⟩
          refine ite2 (fun z => ?_) (fun z => ?_)
          · exact ⟨_, rfl, -1, rfl, rfl, by omega, by omega⟩
          · exact ⟨_, rfl, rfl, by omega, hq1⟩
        rintro σ H16 ⟨sc, rfl, rfl, c0, c1⟩
        refine ⟨_, rfl, _, rfl, fl, _, rfl, .inl (sqd e15), rfl, flat_ints' fs, _, rfl, ?_⟩
        by_cases hin : sc ∈ fs
        · refine ifF (by rw [notIn_int, decide_eq_true hin] <;> rfl) ?_
          exact ⟨fs, _, _, _, rfl, g1015, e15, hnd, by omega, hmem, fun _ e => by rw [e] at hin; cases hin⟩
        · refine ifT (by rw [notIn_int, decide_eq_false hin] <;> rfl) ?_
          refine ⟨_, rfl, .inl ⟨rfl, _, sqd e15⟩, _, rfl, fl, _, _, rfl, rfl, e15, big' (by rw [List.length_map]; omega), ?_⟩
          refine ⟨fs ++ [sc], _, _, _, rfl, g1015.put2 hfl nfl, by rw [upd_same, List.map_append]; rfl, ?_, ?_, ?_, fun _ => by simp⟩
          · exact List.nodup_append.mpr ⟨hnd, by simp, fun a ha b hb e => hin (by rw [← List.mem_singleton.mp hb, ← e]; exact ha)⟩
          · rw [List.length_append]
            exact Nat.add_le_add_right hlen 1
          · intro s hs
            rcases List.mem_append.mp hs with hs | hs
            · exact hmem s hs
            · rw [List.mem_singleton.mp hs]
              exact ⟨c0, c1⟩
      · rintro σ H14 ⟨fs, y11, y12, y13, rfl, g14', e14, hnd, hlen, hmem, hne⟩
        have hfl64 : fs.length ≤ 4 := by omega
        have e14o := g14'.fr ol _ nol e10
        refine ⟨_, rfl, .inl ⟨rfl, _, sqd e14o⟩, _, rfl, fl, fs, rfl, sqd e14, by omega, fun ns q1 hperm hpw hq1 => ?_⟩
        obtain ⟨Hd, ed, sd, kd⟩ := newH hq1 (.lst (ns.map V.int))
        rw [ed]
        refine ⟨q1, _, rfl, .inl ⟨sqd kd, fun t2 ht2 => ?_⟩⟩
        obtain ⟨He, ee, se, ke⟩ := newH ht2 (.tup (ns.map V.int))
        rw [ee]
        have sde := sd.trans se
        have eoe := sde _ _ e14o
        refine ⟨ol, zs, _, rfl, rfl, eoe, big' (by have := hzs.1; omega), ?_⟩
        have ge := g14'.trans (.same g14'.dr sde)
        have tpx : Tp H10 (upd He ol (.lst (zs ++ [.ref t2]))) := tp_put (ge.tp g10.dr) eoe
        have nt2 : t2 ≠ ol := fun e => by
          rw [e, sd _ _ e14o] at ht2
          cases ht2
        refine ⟨zs ++ [.ref t2], os ++ [ns], _, _, _, _, _, rfl, (g10.trans ge).put2 hol7 nol, upd_same, ?_, by rw [List.length_append, hos]; rfl, ?_⟩
        · refine (hzs.mono fun o x => OptIn.tp tpx).snoc ⟨t2, rfl, ?_⟩
          rw [upd_ne nt2]
          exact ke
        · intro o ho
          rcases List.mem_append.mp ho with ho | ho
          · exact hG2 o ho
          · rw [List.mem_singleton.mp ho]
            refine ⟨fun e => ?_, by have := hperm.length_eq; omega, fun s hs => hmem s (hperm.mem_iff.mp hs), asc_of hperm hnd hpw⟩
            rw [e] at hperm
            exact hne (by omega) hperm.symm.eq_nil
    · rintro σ H10 ⟨zs, os, y9, y10, y11, y12, y13, rfl, g10, e10, hzs, hos, hG2⟩
      have e10p := g10.fr p _ hpd e7
      have hxl := hxs.1
      refine ⟨_, rfl, .inl ⟨rfl, _, sqd e10p⟩, _, rfl, ol, zs, rfl, .inl ⟨sqd e10, fun t ht => ?_⟩⟩
      have st := same_new ht (.tup zs)
      have ept := st _ _ e10p
      have gt := (g7.trans g10).trans (.same (g7.trans g10).dr st)
      have ntp : t ≠ p := fun e => by
        rw [e, e10p] at ht
        cases ht
      refine ⟨p, xs, _, rfl, rfl, ept, big' (by omega), ?_⟩
      refine ⟨xs ++ [.ref t], A' ++ [os], some (.int k), some (.ref ol), _, _, _, _, _, rfl, gt.put2 hp0 hpd, ?_, upd_same, ?_, by rw [List.length_append, hA]; rfl, ?_⟩
      · rw [upd_ne npm.symm]
        exact st _ _ (g10.fr ml _ nml em7)
      · have tp : Tp H7 (upd (upd H10 t (.tup zs)) p (.lst (xs ++ [.ref t]))) := tp_put ((g10.tp g7.dr).trans (Tp.same st)) ept
        refine (hxs.mono fun o x => PosIn.tp tp).snoc ⟨t, zs, rfl, ?_, ?_⟩
        · rw [upd_ne ntp]
          exact upd_same
        · exact hzs.mono fun o x => OptIn.tp (tp_put (Tp.same st) ept)
      · intro o ho
        rcases List.mem_append.mp ho with ho | ho
        · exact hG o ho
        · rw [List.mem_singleton.mp ho]
          exact ⟨by omega, hG2⟩
  · rintro σ H7 ⟨xs, A', y7, y8, y9, y10, y11, y12, y13, rfl, g7, em7, e7, hxs, hA, hG⟩
    refine ⟨fun σ H' => ∃ (xs : List V) (A' : Ar) (y7 y8 y9 y10 y11 y12 y13 y14 y15 : Option V), σ = [some (.ref d), some (.int most), some (.int sh), some (.int rare), some (.ref ml), some (.int n), some (.ref p), y7, y8, y9, y10, y11, y12, y13, y14, y15] ∧ Go d H H' ∧ H' p = some (.lst xs) ∧ Each (PosIn H') A' xs ∧ A'.length = n.toNat ∧ ∀ os ∈ A', PosG n os, ?_, ?_⟩
    · refine ⟨_, rfl, _, _, rfl, rfl, _, rfl, ?_⟩
      refine ite2 (fun z => ?_) (fun z => iteF ⟨xs, A', _, _, _, _, _, _, _, _, _, rfl, g7, e7, hxs, hA, hG⟩)
      have hn0 : 0 < n := of_decide_eq_true z
      refine ⟨_, rfl, d, 8, rfl, g7.dr, by decide, fun u4 H9 g9 _ _ => ⟨rfl, _, rfl, ?_⟩⟩
      have e9 := g9.fr p _ hpd e7
      have hxs9 := hxs.mono fun o x => PosIn.tp (g9.tp g7.dr)
      have gg := g7.trans g9
      refine ite2 (fun z => ?_) (fun z => ⟨xs, A', _, _, _, _, _, _, _, _, _, rfl, gg, e9, hxs9, hA, hG⟩)
      refine ⟨_, rfl, _, rfl, d, n, rfl, g9.dr, hn0, fun at_ H10 g10 t0 t1 => ?_⟩
      refine ⟨_, rfl, d, 2, rfl, g10.dr, by decide, fun u H11 g11 u0 u1 => ⟨_, _, rfl, rfl, _, rfl, _, _, rfl, rfl, ⟨by omega, by omega, by omega, by omega, by omega⟩, fun q1 hq1 => ?_⟩⟩
      rw [rg_ints]
      have og1 := rg_good u0 u1 hn0 n46
      generalize (List.range (n - (0 - u)).toNat).map (fun i : Nat => (0 - u) + (i : Int)) = o1 at og1 ⊢
      obtain ⟨Ha, ea, sa, ka⟩ := newH hq1 (.tup (o1.map V.int))
      rw [ea]
      refine ⟨Nat.le_of_ble_eq_true rfl, fun lm hlm => ?_⟩
      obtain ⟨Hb, eb, sb, kb⟩ := newH hlm (.lst [.ref q1])
      rw [eb]
      refine ⟨5, rfl, by decide, by decide, fun D hD => ?_⟩
      refine lc_range (lo := 0) (n := 5) (fun (j : Nat) (H' : Hp) => ∃ (zs : List V) (os : Pos'), Same Hb H' ∧ H' D = some (.lst zs) ∧ Each (OptIn H') os zs ∧ os.length = j ∧ ∀ o ∈ os, OptG n o) ?_ ?_ ?_
      · exact ⟨[], [], same_new hD _, upd_same, .nil, rfl, fun o h => nomatch h⟩
      · rintro j H' hj ⟨zs, os, sj, ej, hzs, hos, hoG⟩
        refine ⟨rfl, yes_if ?_⟩
        refine ⟨_, rfl, _, rfl, _, _, rfl, rfl, .inl ⟨by omega, by omega⟩, _, rfl, _, _, rfl, rfl, .inl ⟨_, rfl, _, rfl, _, _, rfl, rfl, hn0, Nat.le_of_ble_eq_true rfl, fun t ht => ?_⟩⟩
        dsimp only
        generalize hv : ((0 + (j : Int)) * at_ + (0 + (j : Int))) % n = v
        have hv0 : 0 ≤ v := by rw [← hv]; exact Int.emod_nonneg _ (by omega)
        have hv1 : v < n := by rw [← hv]; exact Int.emod_lt_of_pos _ hn0
        obtain ⟨Hc, ec, sc, kc⟩ := newH ht (.tup [V.int v])
        rw [ec]
        have ntD : t ≠ D := fun e => by
          rw [e, ej] at ht
          cases ht
        have ejc := sc _ _ ej
        refine ⟨zs, ejc, big' (by have := hzs.1; omega), zs ++ [.ref t], os ++ [[v]], same_put (sj.trans sc) hD, upd_same, ?_, by rw [List.length_append, hos]; rfl, ?_⟩
        · refine (hzs.mono fun o x => OptIn.tp (tp_put (Tp.same sc) ejc)).snoc ⟨t, rfl, ?_⟩
          rw [upd_ne ntD]
          exact kc
        · intro o ho
          rcases List.mem_append.mp ho with ho | ho
          · exact hoG o ho
          · rw [List.mem_singleton.mp ho]
            exact .one (by omega) hv1
      · rintro H12 ⟨zs, os, sj, ej, hzs, hos, hoG⟩
        refine ⟨lm, D, _, _, rfl, rfl, sj _ _ kb, ej, big (by have := hzs.1; rw [List.length_singleton]; omega), fun mp hmp => ?_⟩
        obtain ⟨Hd, ed, sd, kd⟩ := newH hmp (.lst ([V.ref q1] ++ zs))
        rw [ed]
        have s1 := (sa.trans sb).trans (sj.trans sd)
        have gd : Go d H9 Hd := (g10.trans g11).trans (.same g11.dr s1)
        have hm1 : Each (OptIn Hd) ([o1] ++ os) ([V.ref q1] ++ zs) := (Each.cons ⟨q1, rfl, ((sb.trans sj).trans sd) _ _ ka⟩ .nil).app (hzs.mono fun o x => OptIn.tp (.same sd))
        have edp := gd.fr p _ hpd e9
        have hxd := hxs9.mono fun o x => PosIn.tp (gd.tp g9.dr)
        obtain ⟨os0, x0, hos0, hat, hin⟩ := hxd.atI t0 (by rw [hA]; omega)
        obtain ⟨b0, zs0, rfl, eb0, hzs0⟩ := hin
        have hG0 := hG os0 (List.mem_of_getElem? hos0)
        refine ⟨_, rfl, _, rfl, p, _, _, _, rfl, rfl, sqd edp, hat, _, rfl, mp, _, rfl, .inl ⟨sqd kd, fun t2 ht2 => ?_⟩⟩
        obtain ⟨He, ee, se, ke⟩ := newH ht2 (.tup ([V.ref q1] ++ zs))
        rw [ee]
        refine catA_of (se _ _ eb0) ke (by have h1 := hzs0.1; have h2 := hm1.1; have h3 := hG0.1; rw [h2, List.length_append, hos, List.length_singleton]; omega) fun pc Hf sf ef => ?_
        refine ⟨9, rfl, ?_⟩
        refine slA_of ef fun ps Hg sg eg => ?_
        rw [show cutV (zs0 ++ ([V.ref q1] ++ zs)) none (some 9) = (zs0 ++ ([V.ref q1] ++ zs)).take 9 from cut_pre (k := 9)] at eg
        have seg := (se.trans sf).trans sg
        have egp := seg _ _ edp
        have hgg := gg.trans (gd.trans (.same gd.dr seg))
        have nps : ps ≠ p := fun e => by
          rw [e, egp] at eg
          cases eg
        refine ⟨_, rfl, _, rfl, p, _, _, _, rfl, rfl, egp, ixN_in t0 (by rw [hxd.1, hA]; omega), ?_⟩
        have tpp : Tp Hd (upd Hg p (.lst (xs.set at_.toNat (.ref ps)))) := tp_put (Tp.same seg) egp
        refine ⟨xs.set at_.toNat (.ref ps), A'.set at_.toNat ((os0 ++ ([o1] ++ os)).take 9), _, _, _, _, _, _, _, _, _, rfl, hgg.put2 hp0 hpd, upd_same, ?_, by rw [List.length_set]; exact hA, ?_⟩
        · refine (hxd.mono fun o x => PosIn.tp tpp).set _ ⟨ps, (zs0 ++ ([V.ref q1] ++ zs)).take 9, rfl, ?_, ?_⟩
          · rw [upd_ne nps]
            exact eg
          · exact ((hzs0.app hm1).take 9).mono fun o x => OptIn.tp tpp
        · intro o ho
          rcases List.mem_or_eq_of_mem_set ho with ho | rfl
          · exact hG o ho
          · refine ⟨by rw [List.length_take]; omega, fun w hw => ?_⟩
            have hw := List.mem_of_mem_take hw
            rcases List.mem_append.mp hw with hw | hw
            · exact hG0.2 w hw
            · rcases List.mem_append.mp hw with hw | hw
              · rw [List.mem_singleton.mp hw]
                exact og1
              · exact hoG w hw
    rintro σ H8 ⟨xs, A', y7, y8, y9, y10, y11, y12, y13, y14, y15, rfl, g8, e8, hxs, hA, hG⟩
    refine ⟨_, rfl, p, xs, rfl, .inl ⟨sqd e8, fun t ht => ?_⟩⟩
    have st := same_new ht (.tup xs)
    refine q _ A' _ (g8.trans (.same g8.dr st)) ⟨t, xs, rfl, upd_same, hxs.mono fun os x => PosIn.tp (.same st)⟩ ⟨by omega, fun os h => ?_⟩
    rw [show (A'.length : Int) = n by omega]
    exact hG os h
end
end NL

namespace NL
open PySem PySem.Spec PyProof.Rows L2
theorem ints_snoc2 (ps : List Int) (l : Int) : (ps ++ [l]).map V.int = ps.map V.int ++ [V.int l] := by
  rw [List.map_append]
  rfl
theorem at_last {α : Type} {x : α} {xs : List α} : atI (xs ++ [x]) (-1) = some x := by
  unfold atI
  rw [show ixN (xs ++ [x]).length (-1) = some xs.length by
    unfold ixN
    rw [if_neg (by decide), if_pos (by rw [List.length_append, List.length_singleton]; omega), List.length_append, List.length_singleton]
    congr 1
    omega]
  simp
theorem lc_pairs {K : PySem.W.Frag} {a b : Addr} {xs ys : List V} {g : TG} {tt : TT} {te : TE} {vs : List Nat} {σ : L2.St} {H1 : Hp} {D : Addr} {Qd : Hp → Prop} (n : Nat) (hn : n = min xs.length ys.length) (Pv : Nat → Hp → Prop) (h0 : Pv 0 (upd H1 D (.lst []))) (hq : ∀ i H, Pv i H → SqT K H a xs ∧ SqT K H b ys)
    (hs : ∀ (i : Nat) (x y : V) (t : Addr) (H : Hp), xs[i]? = some x → ys[i]? = some y → Pv i H → H t = none → g (.ref t) (wipe σ vs) (upd H t (.tup [x, y])) fun σ2 H2 => wipe σ2 vs = wipe σ vs ∧ tt σ2 H2 fun c H3 =>
      if c = true then te σ2 H3 fun z H4 => ∃ acc, H4 D = some (.lst acc) ∧ acc.length < sizeLine ∧ Pv (i + 1) (upd H4 D (.lst (acc ++ [z]))) else Pv (i + 1) H3) (hd : ∀ H, Pv n H → Qd H) :
    ∃ W : Nat → Nat → Hp → Prop, (∃ m, W 0 m (upd H1 D (.lst []))) ∧ ∀ i m H, W i m H →
      ((RZ.ItzT K a b).stop i H ∧ Qd H) ∨ ((RZ.ItzT K a b).go i H ∧ ∃ Nx : Hp → Prop, (∀ H', Nx H' → ∃ m', m' < m ∧ W (i + 1) m' H') ∧ ∀ x H', (RZ.ItzT K a b).yld i H x H' → g x (wipe σ vs) H' fun σ2 H2 => wipe σ2 vs = wipe σ vs ∧ tt σ2 H2 fun c H3 =>
        if c = true then te σ2 H3 fun z H4 => ∃ acc, H4 D = some (.lst acc) ∧ acc.length < sizeLine ∧ Nx (upd H4 D (.lst (acc ++ [z]))) else Nx H3) := by
  refine ⟨fun i m H => m + i = n ∧ Pv i H, ⟨n, rfl, h0⟩, ?_⟩
  rintro i m H ⟨hi, p⟩
  obtain ⟨qx, qy⟩ := hq i H p
  by_cases lt : i < n
  · have ex : xs[i]? = some xs[i] := List.getElem?_eq_getElem (by omega)
    have ey : ys[i]? = some ys[i] := List.getElem?_eq_getElem (by omega)
    refine .inr ⟨⟨xs, ys, _, _, qx, qy, ex, ey⟩, Pv (i + 1), fun H' p' => ⟨m - 1, by omega, by omega, p'⟩, fun v H' y => ?_⟩
    obtain ⟨t, x1, y1, rfl, ht, rfl, f1, f2⟩ := y
    exact hs i x1 y1 t H (f1 xs qx) (f2 ys qy) p ht
  · have e : i = n := by omega
    subst e
    exact .inl ⟨⟨xs, ys, qx, qy, by omega⟩, hd H p⟩
theorem op_catAK {X : Cx} {K : PySem.W.Frag} (h : X.K = K) : OpR X (binaryOp .Add) (rCatA K) := by subst h; exact op_catA
end NL

namespace NL
open PySem PySem.Spec PyProof.Rows L2
/-! ### shortest rows, as functions -/
abbrev Ent := Int × List Int
def keysE (R : List Ent) : List Int := R.map (·.1)
def insE (R : List Ent) (e : Ent) : List Ent := if e.1 ∈ keysE R then R else R ++ [e]
def stepE (f : Int → List Int) (R : List Ent) (e : Ent) : List Ent := (f e.1).foldl (fun R a => insE R (a, e.2 ++ [a])) R
theorem keysE_app (R S : List Ent) : keysE (R ++ S) = keysE R ++ keysE S := List.map_append
theorem ins_ext (R : List Ent) (e : Ent) : ∃ N, insE R e = R ++ N ∧ e.1 ∈ keysE (insE R e) := by
  unfold insE
  split
  · rename_i h
    exact ⟨[], (List.append_nil _).symm, h⟩
  · refine ⟨[e], rfl, ?_⟩
    rw [keysE_app]
    exact List.mem_append_right _ (List.mem_singleton.mpr rfl)
theorem fold_ext {α : Type} (g : List Ent → α → List Ent) (hg : ∀ R a, ∃ N, g R a = R ++ N) : ∀ (l : List α) (R : List Ent), ∃ N, l.foldl g R = R ++ N
  | [], R => ⟨[], (List.append_nil _).symm⟩
  | a :: r, R => by
    obtain ⟨N, h⟩ := hg R a
    obtain ⟨M, h2⟩ := fold_ext g hg r (g R a)
    refine ⟨N ++ M, ?_⟩
    rw [List.foldl_cons, h2, h, List.append_assoc]
theorem step_ext (f : Int → List Int) (R : List Ent) (e : Ent) : ∃ N, stepE f R e = R ++ N := fold_ext _ (fun R a => ⟨_, (ins_ext R _).choose_spec.1⟩) _ _
theorem step_has (f : Int → List Int) (R : List Ent) (e : Ent) : ∀ a ∈ f e.1, a ∈ keysE (stepE f R e) := by
  unfold stepE
  generalize f e.1 = l
  induction l generalizing R with
  | nil => exact fun a h => nomatch h
  | cons b r ih =>
    intro a ha
    rw [List.foldl_cons]
    rcases List.mem_cons.mp ha with rfl | ha
    · obtain ⟨N, h⟩ := fold_ext (fun R a => insE R (a, e.2 ++ [a])) (fun R a => ⟨_, (ins_ext R _).choose_spec.1⟩) r (insE R (a, e.2 ++ [a]))
      rw [h, keysE_app]
      exact List.mem_append_left _ (ins_ext R (a, e.2 ++ [a])).choose_spec.2
    · exact ih _ a ha
theorem step_noop {f : Int → List Int} {R : List Ent} {e : Ent} (h : ∀ a ∈ f e.1, a ∈ keysE R) : stepE f R e = R := by
  unfold stepE
  generalize f e.1 = l at h
  induction l with
  | nil => rfl
  | cons b r ih =>
    rw [List.foldl_cons, show insE R (b, e.2 ++ [b]) = R by unfold insE; rw [if_pos (h b (List.mem_cons_self ..))]]
    exact ih fun a ha => h a (List.mem_cons_of_mem _ ha)
/-- entries that are there already add nothing -/
theorem skip_seen {f : Int → List Int} : ∀ (es : List Ent) (R0 R N : List Ent), (∀ p ∈ keysE R0, ∀ a ∈ f p, a ∈ keysE R) → es.foldl insE R0 = R0 ++ N →
    es.foldl (stepE f) R = N.foldl (stepE f) R ∧ ∀ p ∈ keysE (R0 ++ N), ∀ a ∈ f p, a ∈ keysE (es.foldl (stepE f) R)
  | [], R0, R, N, hc, hN => by
    have : N = [] := by simpa using hN
    subst this
    refine ⟨rfl, fun p hp => ?_⟩
    rw [List.append_nil] at hp
    exact hc p hp
  | e :: r, R0, R, N, hc, hN => by
    rw [List.foldl_cons] at hN ⊢
    by_cases he : e.1 ∈ keysE R0
    · rw [show insE R0 e = R0 by unfold insE; rw [if_pos he]] at hN
      rw [step_noop (hc e.1 he)]
      exact skip_seen r R0 R N hc hN
    · rw [show insE R0 e = R0 ++ [e] by unfold insE; rw [if_neg he]] at hN
      obtain ⟨M, hM⟩ := fold_ext insE (fun R a => ⟨_, (ins_ext R _).choose_spec.1⟩) r (R0 ++ [e])
      have hNM : N = e :: M := by
        rw [hM, List.append_assoc] at hN
        exact (List.append_cancel_left hN).symm
      subst hNM
      obtain ⟨K, hK⟩ := step_ext f R e
      have := skip_seen r (R0 ++ [e]) (stepE f R e) M (fun p hp a ha => by
        rw [keysE_app] at hp
        rcases List.mem_append.mp hp with hp | hp
        · rw [hK, keysE_app]
          exact List.mem_append_left _ (hc p hp a ha)
        · have : p = e.1 := List.mem_singleton.mp hp
          rw [this] at ha
          exact step_has f R e a ha) hM
      refine ⟨by rw [List.foldl_cons]; exact this.1, fun p hp => ?_⟩
      refine this.2 p ?_
      rw [List.append_assoc]
      exact hp
/-- all rows of a length, in order -/
def rowsL (f : Int → List Int) (st : Int) : Nat → List (List Int × Int)
  | 0 => [([], st)]
  | L + 1 => (rowsL f st L).flatMap fun e => (f e.2).map fun a => (e.1 ++ [a], a)
def entOf (st : Int) (e : List Int × Int) : Ent := (e.2, st :: e.1)
def seenE (f : Int → List Int) (st : Int) : Nat → List Ent
  | 0 => []
  | L + 1 => ((rowsL f st L).map (entOf st)).foldl insE (seenE f st L)
theorem seen_ext (f : Int → List Int) (st : Int) (L : Nat) : ∃ N, seenE f st (L + 1) = seenE f st L ++ N := fold_ext insE (fun R a => ⟨_, (ins_ext R _).choose_spec.1⟩) _ _
theorem seen_next (f : Int → List Int) (st : Int) (L : Nat) : seenE f st (L + 2) = ((rowsL f st L).map (entOf st)).foldl (stepE f) (seenE f st (L + 1)) := by
  show ((rowsL f st (L + 1)).map (entOf st)).foldl insE (seenE f st (L + 1)) = _
  generalize seenE f st (L + 1) = R
  show (((rowsL f st L).flatMap fun e => (f e.2).map fun a => (e.1 ++ [a], a)).map (entOf st)).foldl insE R = _
  generalize rowsL f st L = es
  induction es generalizing R with
  | nil => rfl
  | cons e r ih =>
    rw [List.flatMap_cons, List.map_append, List.foldl_append, ih, List.map_cons, List.foldl_cons]
    congr 1
    rw [List.map_map, List.foldl_map]
    rfl
theorem seen_level (f : Int → List Int) (st : Int) : ∀ (L : Nat) (N : List Ent), seenE f st (L + 1) = seenE f st L ++ N → seenE f st (L + 2) = N.foldl (stepE f) (seenE f st (L + 1)) ∧ ∀ p ∈ keysE (seenE f st (L + 1)), ∀ a ∈ f p, a ∈ keysE (seenE f st (L + 2)) := by
  intro L
  have hc : ∀ p ∈ keysE (seenE f st L), ∀ a ∈ f p, a ∈ keysE (seenE f st (L + 1)) := by
    cases L with
    | zero => exact fun p hp => nomatch hp
    | succ L =>
      obtain ⟨N, hN⟩ := seen_ext f st L
      exact (seen_level f st L N hN).2
  intro N hN
  have := skip_seen ((rowsL f st L).map (entOf st)) (seenE f st L) (seenE f st (L + 1)) N hc hN
  rw [← seen_next, ← hN] at this
  exact this
theorem seen_stop {f : Int → List Int} {st : Int} {L : Nat} (h : seenE f st (L + 1) = seenE f st L) : ∀ K, L ≤ K → seenE f st K = seenE f st L := by
  have one : ∀ j, seenE f st (L + j + 1) = seenE f st (L + j) := fun j => by
    induction j with
    | zero => exact h
    | succ j ih =>
      have := (seen_level f st (L + j) [] (by rw [List.append_nil]; exact ih)).1
      exact this
  intro K hK
  obtain ⟨j, rfl⟩ : ∃ j, K = L + j := ⟨K - L, by omega⟩
  clear hK
  induction j with
  | zero => rfl
  | succ j ih => exact (one j).trans ih
theorem seen_pre (f : Int → List Int) (st : Int) (L j : Nat) : ∃ N, seenE f st (L + j) = seenE f st L ++ N := by
  induction j with
  | zero => exact ⟨[], (List.append_nil _).symm⟩
  | succ j ih =>
    obtain ⟨N, h⟩ := ih
    obtain ⟨M, h2⟩ := seen_ext f st (L + j)
    exact ⟨N ++ M, by rw [← Nat.add_assoc, h2, h, List.append_assoc]⟩
/-! ### what is found first -/
def ansE (lost : Int → Bool) (R : List Ent) : Option Ent := R.find? fun e => lost e.1
theorem ins_ans {lost : Int → Bool} : ∀ (es R : List Ent), ansE lost R = none → ansE lost (es.foldl insE R) = ansE lost es
  | [], R, h => h
  | e :: r, R, h => by
    rw [List.foldl_cons]
    have hR : ∀ q ∈ R, lost q.1 = false := fun q hq => by
      have := List.find?_eq_none.mp h q hq
      simpa using this
    by_cases hl : lost e.1 = true
    · have hn : e.1 ∉ keysE R := fun hk => by
        obtain ⟨q, hq, eq⟩ := List.mem_map.mp hk
        have := hR q hq
        rw [eq, hl] at this
        cases this
      rw [show insE R e = R ++ [e] by unfold insE; rw [if_neg hn]]
      obtain ⟨N, hN⟩ := fold_ext insE (fun R a => ⟨_, (ins_ext R _).choose_spec.1⟩) r (R ++ [e])
      rw [hN]
      unfold ansE at h ⊢
      rw [List.find?_append, List.find?_append, h, List.find?_cons, hl]
      simp [hl]
    · have hl' : lost e.1 = false := by simpa using hl
      rw [ins_ans r (insE R e)]
      · unfold ansE
        rw [List.find?_cons, hl']
      · unfold insE
        split
        · exact h
        · unfold ansE at h ⊢
          rw [List.find?_append, h]
          simp [hl']
def unlost (lost : Int → Bool) (f : Int → List Int) (st : Int) (L : Nat) : Prop := ∀ e ∈ rowsL f st L, lost e.2 = false
theorem seen_none {lost : Int → Bool} {f : Int → List Int} {st : Int} : ∀ L, (∀ l, l < L → unlost lost f st l) → ansE lost (seenE f st L) = none
  | 0, _ => rfl
  | L + 1, h => by
    show ansE lost (((rowsL f st L).map (entOf st)).foldl insE (seenE f st L)) = none
    rw [ins_ans _ _ (seen_none L fun l hl => h l (by omega))]
    refine List.find?_eq_none.mpr fun e he => ?_
    obtain ⟨q, hq, rfl⟩ := List.mem_map.mp he
    have := h L (by omega) q hq
    show ¬ lost q.2 = true
    rw [this]
    exact Bool.false_ne_true
theorem seen_found {lost : Int → Bool} {f : Int → List Int} {st : Int} {L : Nat} (h : ∀ l, l < L → unlost lost f st l) : ansE lost (seenE f st (L + 1)) = ((rowsL f st L).find? fun e => lost e.2).map (entOf st) := by
  show ansE lost (((rowsL f st L).map (entOf st)).foldl insE (seenE f st L)) = _
  rw [ins_ans _ _ (seen_none L h)]
  unfold ansE
  rw [List.find?_map]
  rfl
theorem ans_app {lost : Int → Bool} {R N : List Ent} {e : Ent} (h : ansE lost R = some e) : ansE lost (R ++ N) = some e := by
  unfold ansE at h ⊢
  rw [List.find?_append, h]
  rfl
/-- the rows that a search ends with -/
def Ended (f : Int → List Int) (st : Int) (R : List Ent) : Prop := ∃ M, R = seenE f st M ∧ ∀ K, M ≤ K → seenE f st K = seenE f st M
theorem Ended.hit {lost : Int → Bool} {f : Int → List Int} {st : Int} {R : List Ent} (h : Ended f st R) {L : Nat} {e : List Int × Int} (hu : ∀ l, l < L → unlost lost f st l) (hf : ((rowsL f st L).find? fun e => lost e.2) = some e) : ansE lost R = some (entOf st e) := by
  obtain ⟨M, rfl, hM⟩ := h
  have h1 : ansE lost (seenE f st (L + 1)) = some (entOf st e) := by
    rw [seen_found hu, hf]
    rfl
  rcases Nat.le_total M (L + 1) with hl | hl
  · rw [← hM _ hl]
    exact h1
  · obtain ⟨N, hN⟩ := seen_pre f st (L + 1) (M - (L + 1))
    rw [show L + 1 + (M - (L + 1)) = M by omega] at hN
    rw [hN]
    exact ans_app h1
theorem nd_len (lo : Int) : ∀ (n : Nat) (l : List Int), l.Nodup → (∀ x ∈ l, lo ≤ x ∧ x < lo + n) → l.length ≤ n
  | 0, l, _, h => by
    cases l with
    | nil => exact Nat.le_refl 0
    | cons a r =>
      have := h a (List.mem_cons_self ..)
      omega
  | n + 1, l, hd, h => by
    have h2 := nd_len lo n (l.erase (lo + n)) (hd.erase _) fun x hx => by
      have h3 := (List.Nodup.mem_erase_iff hd).mp hx
      have := h x h3.2
      have h4 := h3.1
      omega
    have := List.length_erase (a := lo + (n : Int)) (l := l)
    split at this <;> omega
theorem ins_nd {R : List Ent} (h : (keysE R).Nodup) (e : Ent) : (keysE (insE R e)).Nodup := by
  unfold insE
  split
  · exact h
  · rename_i hn
    rw [keysE_app, List.nodup_append]
    refine ⟨h, List.nodup_cons.mpr ⟨fun h => (nomatch h), List.nodup_nil⟩, fun a ha b hb e => ?_⟩
    have hb' := List.mem_singleton.mp hb
    rw [e, hb'] at ha
    exact hn ha
theorem insF_nd : ∀ (es : List Ent) {R : List Ent}, (keysE R).Nodup → (keysE (es.foldl insE R)).Nodup
  | [], _, h => h
  | e :: r, _, h => insF_nd r (ins_nd h e)
theorem seen_nd (f : Int → List Int) (st : Int) : ∀ L, (keysE (seenE f st L)).Nodup
  | 0 => List.nodup_nil
  | L + 1 => insF_nd _ (seen_nd f st L)
theorem insF_mem {P : Ent → Prop} : ∀ (es : List Ent) {R : List Ent}, (∀ e ∈ R, P e) → (∀ e ∈ es, P e) → ∀ e ∈ es.foldl insE R, P e
  | [], _, h, _ => h
  | e :: r, R, h, g => by
    refine insF_mem r (fun q hq => ?_) fun q hq => g q (List.mem_cons_of_mem _ hq)
    unfold insE at hq
    split at hq
    · exact h q hq
    · rcases List.mem_append.mp hq with hq | hq
      · exact h q hq
      · rw [List.mem_singleton.mp hq]
        exact g e (List.mem_cons_self ..)
/-- each row that was met is one of all rows of its length -/
theorem seen_mem (f : Int → List Int) (st : Int) : ∀ L, ∀ e ∈ seenE f st L, ∃ l, l < L ∧ ∃ q ∈ rowsL f st l, e = entOf st q
  | 0 => fun e h => nomatch h
  | L + 1 => insF_mem _ (fun e he => by
      obtain ⟨l, hl, q⟩ := seen_mem f st L e he
      exact ⟨l, by omega, q⟩) fun e he => by
      obtain ⟨q, hq, rfl⟩ := List.mem_map.mp he
      exact ⟨L, Nat.lt_succ_self L, q, hq, rfl⟩
theorem rows_in {f : Int → List Int} {st n : Int} (h0 : -1 ≤ st ∧ st < n) (hf : ∀ p, ∀ a ∈ f p, -1 ≤ a ∧ a < n) : ∀ L, ∀ e ∈ rowsL f st L, -1 ≤ e.2 ∧ e.2 < n
  | 0 => fun e he => by
    rw [List.mem_singleton.mp he]
    exact h0
  | L + 1 => fun e he => by
    obtain ⟨q, _, hq⟩ := List.mem_flatMap.mp he
    obtain ⟨a, ha, rfl⟩ := List.mem_map.mp hq
    exact hf _ a ha
theorem Ended.miss {lost : Int → Bool} {f : Int → List Int} {st : Int} {R : List Ent} {n : Nat} (h : Ended f st R) (h0 : -1 ≤ st ∧ st < n) (hf : ∀ p, ∀ a ∈ f p, -1 ≤ a ∧ a < (n : Int)) (hl : lost (-1) = true) (hu : ∀ l, l ≤ n → unlost lost f st l) : ansE lost R = none := by
  obtain ⟨M, rfl, hM⟩ := h
  -- where it stops
  have stop : ∃ L, L ≤ n ∧ seenE f st (L + 1) = seenE f st L := by
    refine Classical.byContradiction fun hno => ?_
    have grow : ∀ L, L ≤ n + 1 → L ≤ (seenE f st L).length := fun L hL => by
      induction L with
      | zero => exact Nat.zero_le _
      | succ L ih =>
        have := ih (by omega)
        obtain ⟨N, hN⟩ := seen_ext f st L
        cases N with
        | nil =>
          rw [List.append_nil] at hN
          exact absurd ⟨L, by omega, hN⟩ hno
        | cons a r =>
          rw [hN, List.length_append, List.length_cons]
          omega
    have h1 := grow (n + 1) (Nat.le_refl _)
    have h2 := nd_len 0 n (keysE (seenE f st (n + 1))) (seen_nd f st (n + 1)) fun x hx => by
      obtain ⟨e, he, rfl⟩ := List.mem_map.mp hx
      obtain ⟨l, hl', q, hq, rfl⟩ := seen_mem f st (n + 1) e he
      have hin := rows_in (n := (n : Int)) h0 hf l q hq
      have hul := hu l (by omega) q hq
      have : q.2 ≠ -1 := fun e => by
        rw [e, hl] at hul
        cases hul
      show 0 ≤ q.2 ∧ q.2 < 0 + (n : Int)
      omega
    have h3 : (keysE (seenE f st (n + 1))).length = (seenE f st (n + 1)).length := List.length_map ..
    omega
  obtain ⟨L, hL, hs⟩ := stop
  have hn := seen_none (lost := lost) (f := f) (st := st) L fun l hl => hu l (by omega)
  have hst := seen_stop hs
  have : seenE f st M = seenE f st (max M L) := (hM _ (Nat.le_max_left ..)).symm
  rw [this, hst _ (Nat.le_max_right ..)]
  exact hn
/-- a row's way -/
theorem rows_way {f : Int → List Int} {st : Int} : ∀ L, ∀ e ∈ rowsL f st L, e.1.length = L ∧ (st :: e.1)[L]? = some e.2 ∧ (∀ j, j ≤ L → ∃ q r, (st :: e.1)[j]? = some q ∧ (r, q) ∈ rowsL f st j) ∧ ∀ j, j < L → ∃ q a, (st :: e.1)[j]? = some q ∧ e.1[j]? = some a ∧ a ∈ f q
  | 0 => fun e he => by
    have := List.mem_singleton.mp he
    subst this
    refine ⟨rfl, rfl, fun j hj => ?_, fun j hj => absurd hj (Nat.not_lt_zero _)⟩
    have : j = 0 := by omega
    subst this
    exact ⟨st, [], rfl, List.mem_singleton.mpr rfl⟩
  | L + 1 => fun e he => by
    obtain ⟨q, hq, h⟩ := List.mem_flatMap.mp he
    obtain ⟨a, ha, rfl⟩ := List.mem_map.mp h
    obtain ⟨h1, h2, h3, h4⟩ := rows_way L q hq
    have hlen : (st :: q.1).length = L + 1 := by rw [List.length_cons, h1]
    have hpre : ∀ j, j ≤ L → (st :: (q.1 ++ [a]))[j]? = (st :: q.1)[j]? := fun j hj => by
      rw [show st :: (q.1 ++ [a]) = (st :: q.1) ++ [a] from rfl, List.getElem?_append_left (by omega)]
    have hlast : (st :: (q.1 ++ [a]))[L + 1]? = some a := by
      rw [show st :: (q.1 ++ [a]) = (st :: q.1) ++ [a] from rfl, List.getElem?_append_right (by omega), hlen, Nat.sub_self]
      rfl
    refine ⟨by show (q.1 ++ [a]).length = L + 1; rw [List.length_append, h1]; rfl, hlast, fun j hj => ?_, fun j hj => ?_⟩
    · rcases Nat.lt_or_ge j (L + 1) with hl | hl
      · obtain ⟨x, r, hx, hr⟩ := h3 j (by omega)
        exact ⟨x, r, by rw [hpre j (by omega)]; exact hx, hr⟩
      · have : j = L + 1 := by omega
        subst this
        exact ⟨a, q.1 ++ [a], hlast, he⟩
    · rcases Nat.lt_or_ge j L with hl | hl
      · obtain ⟨x, b, hx, hb, hm⟩ := h4 j hl
        exact ⟨x, b, by rw [hpre j (by omega)]; exact hx, by show (q.1 ++ [a])[j]? = some b; rw [List.getElem?_append_left (by omega)]; exact hb, hm⟩
      · have : j = L := by omega
        subst this
        refine ⟨q.2, a, by rw [hpre j (by omega)]; exact h2, ?_, ha⟩
        show (q.1 ++ [a])[j]? = some a
        rw [List.getElem?_append_right (by omega), h1, Nat.sub_self]
        rfl
theorem rows_len {f : Int → List Int} {st : Int} {c : Nat} (hf : ∀ p, (f p).length ≤ c) : ∀ L, (rowsL f st L).length ≤ c ^ L
  | 0 => Nat.le_refl 1
  | L + 1 => by
    have h := rows_len (st := st) hf L
    have : ∀ es : List (List Int × Int), (es.flatMap fun e => (f e.2).map fun a => (e.1 ++ [a], a)).length ≤ es.length * c := fun es => by
      induction es with
      | nil => exact Nat.zero_le _
      | cons e r ih =>
        rw [List.flatMap_cons, List.length_append, List.length_map, List.length_cons, Nat.add_mul, Nat.one_mul]
        have := hf e.2
        omega
    exact Nat.le_trans (this _) (Nat.mul_le_mul_right c h)
end NL

namespace NL
open PySem PySem.Spec PyProof.Rows L2
theorem sw_trueD {kx vx : Expr} {gs : List Comprehension} {scope : Scope} {pos py : Pos} {y : Str} {l : Nat} {env : Env} (hk : env.scope.kind = .function) (hy : env.scope.names.lookup y = some .local) (hl : (py.line == pos.line) = true)
    (ha : (scope.names.any fun (n, k) => n == y && (k == .local || k == .cell)) = false) : swapsWith (.DictComp kx vx gs scope pos) (some (.Name y py)) l env = pure true := by
  have ky : env.kindOf y = some .local := hy
  have hb : env.blockKind = .function := by unfold Env.blockKind; rw [hk]; rfl
  unfold swapsWith
  simp only [hb, ky, ha, Expr.pos, hl]
  rfl
/-- name = {k: v for ..} on one line, the name a local -/
theorem ps_setDc {X : Cx} {i : Nat} {y : Str} {py : Pos} {kx vx tg iter : Expr} {ifs : List Expr} {scope : Scope} {own : List (Str × Nat)} {pos spos : Pos} {wi : TI} {g : TG} {tt : TT} {tk tv : TE} (hc : X.calm = true) (hN : X.N.Nodup) (hy : X.N[i]? = some y) (hyl : X.env.scope.names.lookup y = some .local)
    (hsw : swapsWith (.DictComp kx vx [⟨tg, iter, ifs, 0⟩] scope pos) (some (.Name y py)) spos.line X.env = pure true) (hi : PI X tg iter wi) (ok : BlkOk X.N X.env.scope scope own)
    (hg : ∀ (s : Shared) (H : Hp) (C : Addr) (cl : List (Str × Addr)) (fp : List Addr), PG (X.blk s H scope (compEnvC scope cl C X.env) fp) tg g) (ht : ∀ (s : Shared) (H : Hp) (C : Addr) (cl : List (Str × Addr)) (fp : List Addr), PTs (X.blk s H scope (compEnvC scope cl C X.env) fp) ifs tt)
    (hk : ∀ (s : Shared) (H : Hp) (C : Addr) (cl : List (Str × Addr)) (fp : List Addr), PE (X.blk s H scope (compEnvC scope cl C X.env) fp) kx tk)
    (he : ∀ (s : Shared) (H : Hp) (C : Addr) (cl : List (Str × Addr)) (fp : List Addr), PE (X.blk s H scope (compEnvC scope cl C X.env) fp) vx tv) (hs : ∀ x, foldedSetIterable iter X.env x = pure x := by intro _; rfl) :
    PS X (.Assign [.Name y py] (.DictComp kx vx [⟨tg, iter, ifs, 0⟩] scope pos) spos) (tAsg (tDc wi g tt tk tv (own.map (·.2))) (gName i)) := by
  refine ⟨fun pins s σ H D I h => ?_⟩
  rw [exec_Assign_Name_used _ _ _ _ hsw]
  refine wpAny_bind (wpAny_standAt (wpAny_bind ?_))
  show wpAny _ X.A (do let _ ← comprehension (.DictComp kx vx [⟨tg, iter, ifs, 0⟩] scope pos) scope X.env (firstIterPos [⟨tg, iter, ifs, 0⟩] pos) newDict false (eval iter X.env) (some (assign (.Name y py) X.env))) _ _ s
  have h : tDc wi g tt tk tv (own.map (·.2)) σ H (fun x H1 => gName i x σ H1 D.nx) := h
  refine wpAny_bind (thn (dc_core (Qf := fun _ s' => SP X pins D .next s') hc hN I hi ok hg ht hk he hs h fun L C s' m H' I' q hn f => ?_) fun _ s' hq => wpAny_pure (wpAny_pure hq))
  show wpAny _ _ (assign (.Name y py) X.env (.ref L)) _ _ _
  refine wpAny_assign_Name (store_ok2 (v := V.ref L) I' hN hy (.inl hyl) rfl (fun s2 I2 ⟨a, sb, ha⟩ => ?_) (.inr hyl))
  obtain ⟨f0, f1, f2, f3, f4, f5⟩ := f
  have haC : C ≠ a := by
    rcases ha with z | z
    · rw [z]; exact f1
    · exact fun e => f4 y a z e.symm
  refine ⟨m, hn.sameBut sb haC, fun h3 sb3 => ?_⟩
  exact ⟨_, H', I2.turned (t' := s2.toks) (fun b o hb e => (sb3.2 b hb).trans e) f0 f1 f3 f4 f5, q⟩
theorem SameTp {H H' : Hp} (s : Same H H') : Tp H H' := Tp.same s
/-- the list of successors at a: f as a function -/
def SucA (H : Hp) (a : Addr) (f : Int → List Int) (n : Int) : Prop := ∃ xs, H a = some (.lst xs) ∧ ∀ p, -1 ≤ p → p < n → ∃ x, atI xs p = some x ∧ OptIn H (f p) x
structure SucG (f : Int → List Int) (n : Int) : Prop where
  mem : ∀ p, ∀ a ∈ f p, -1 ≤ a ∧ a < n
  few : n ≤ 400
inductive RowsAt (H : Hp) : List Ent → List (Key × V) → Prop
  | nil : RowsAt H [] []
  | cons {e : Ent} {v : V} {R : List Ent} {kvs : List (Key × V)} : OptIn H e.2 v → RowsAt H R kvs → RowsAt H (e :: R) ((Sum.inl e.1, v) :: kvs)
theorem RowsAt.tp {H H' : Hp} (t : Tp H H') : ∀ {R : List Ent} {kvs : List (Key × V)}, RowsAt H R kvs → RowsAt H' R kvs
  | _, _, .nil => .nil
  | _, _, .cons h r => .cons (h.tp t) (r.tp t)
theorem RowsAt.len {H : Hp} : ∀ {R : List Ent} {kvs : List (Key × V)}, RowsAt H R kvs → kvs.length = R.length
  | _, _, .nil => rfl
  | _, _, .cons _ r => congrArg (· + 1) r.len
theorem RowsAt.snoc {H : Hp} {e : Ent} {v : V} (h : OptIn H e.2 v) : ∀ {R : List Ent} {kvs : List (Key × V)}, RowsAt H R kvs → RowsAt H (R ++ [e]) (kvs ++ [(Sum.inl e.1, v)])
  | _, _, .nil => .cons h .nil
  | _, _, .cons g r => .cons g (r.snoc h)
theorem RowsAt.get {H : Hp} : ∀ {R : List Ent} {kvs : List (Key × V)}, RowsAt H R kvs → ∀ (i : Nat) (k : Key) (v : V), kvs[i]? = some (k, v) → ∃ e, R[i]? = some e ∧ k = Sum.inl e.1 ∧ OptIn H e.2 v
  | _, _, .nil, i, k, v, h => by simp at h
  | _, _, .cons g r, 0, k, v, h => by
    rw [List.getElem?_cons_zero] at h
    injection h with h
    injection h with h1 h2
    subst h1
    subst h2
    exact ⟨_, rfl, rfl, g⟩
  | _, _, .cons g r, i + 1, k, v, h => by
    rw [List.getElem?_cons_succ] at h
    obtain ⟨e, he, q⟩ := r.get i k v h
    exact ⟨e, by rw [List.getElem?_cons_succ]; exact he, q⟩
theorem RowsAt.no {H : Hp} {p : Int} : ∀ {R : List Ent} {kvs : List (Key × V)}, RowsAt H R kvs → p ∉ keysE R → valV kvs (Sum.inl p : Key) = none
  | _, _, .nil, _ => rfl
  | _, _, .cons (e := e) _ r, h => by
    have h1 : ¬ (Sum.inl e.1 : Key) = Sum.inl p := fun q => h (by
      injection q with q
      rw [← q]
      exact List.mem_cons_self ..)
    rw [valV_neg h1]
    exact r.no fun q => h (List.mem_cons_of_mem _ q)
theorem RowsAt.yes {H : Hp} : ∀ {R : List Ent} {kvs : List (Key × V)}, RowsAt H R kvs → (keysE R).Nodup → ∀ e ∈ R, ∃ v, valV kvs (Sum.inl e.1 : Key) = some v ∧ OptIn H e.2 v
  | _, _, .nil, _, e, h => nomatch h
  | _, _, .cons (e := q) (v := v) (R := R) g r, hd, e, h => by
    have hd' := List.nodup_cons.mp (show (q.1 :: keysE R).Nodup from hd)
    rcases List.mem_cons.mp h with rfl | h
    · exact ⟨v, valV_pos rfl, g⟩
    · obtain ⟨u, hu, ho⟩ := r.yes hd'.2 e h
      refine ⟨u, ?_, ho⟩
      rw [valV_neg (fun z => hd'.1 (by
        injection z with z
        rw [show q.1 = e.1 from z]
        exact List.mem_map_of_mem h))]
      exact hu
theorem RowsAt.put {H : Hp} {R : List Ent} {kvs : List (Key × V)} {p : Int} {row : List Int} {v : V} (r : RowsAt H R kvs) (hn : p ∉ keysE R) (h : OptIn H row v) : RowsAt H (insE R (p, row)) (putK kvs (Sum.inl p : Key) v) := by
  rw [putK_new v (r.no hn), show insE R (p, row) = R ++ [(p, row)] by unfold insE; rw [if_neg hn]]
  exact r.snoc (e := (p, row)) h
structure GoodR (n : Int) (R : List Ent) : Prop where
  nd : (keysE R).Nodup
  inn : ∀ e ∈ R, -1 ≤ e.1 ∧ e.1 < n
  len : ∀ e ∈ R, e.2.length ≤ R.length
theorem GoodR.few {n : Int} {R : List Ent} (h : GoodR n R) (h0 : 0 ≤ n) : R.length ≤ n.toNat + 1 := by
  have := nd_len (-1) (n.toNat + 1) (keysE R) h.nd fun x hx => by
    obtain ⟨e, he, rfl⟩ := List.mem_map.mp hx
    have := h.inn e he
    omega
  rw [show (keysE R).length = R.length from List.length_map ..] at this
  exact this
theorem ins_at {R : List Ent} {e : Ent} : insE R e = R ∨ insE R e = R ++ [e] := by
  unfold insE
  split
  · exact .inl rfl
  · exact .inr rfl
theorem GoodR.ins {n : Int} {R : List Ent} {p : Int} {row : List Int} (h : GoodR n R) (hp : -1 ≤ p ∧ p < n) (hr : row.length ≤ R.length) : GoodR n (insE R (p, row ++ [p])) := by
  have hnd := ins_nd h.nd (p, row ++ [p])
  rcases ins_at (R := R) (e := (p, row ++ [p])) with e | e
  · rw [e]
    exact h
  · rw [e] at hnd ⊢
    refine ⟨hnd, fun q hq => ?_, fun q hq => ?_⟩
    · rcases List.mem_append.mp hq with hq | hq
      · exact h.inn q hq
      · rw [List.mem_singleton.mp hq]
        exact hp
    · rw [List.length_append]
      rcases List.mem_append.mp hq with hq | hq
      · exact Nat.le_succ_of_le (h.len q hq)
      · rw [List.mem_singleton.mp hq]
        show (row ++ [p]).length ≤ R.length + 1
        rw [List.length_append]
        exact Nat.succ_le_succ hr
section
variable {P : Program} {w : World} {K : PySem.W.Frag} {mg : Str → Option Value} {base : Heap}
/-! ### _least_rows -/
def spLeast : Sp := fun vs H Q _ => ∃ (a b : Addr) (f : Int → List Int) (n st : Int), vs = [.ref a, .ref b] ∧ SucA H a f n ∧ SucG f n ∧ H b = some (.tup [.int st]) ∧ -1 ≤ st ∧ st < n ∧
  ∀ (D : Addr) (kvs : List (Key × V)) (R : List Ent) (H' : Hp), Same H H' → H D = none → H' D = some (.dK kvs) → RowsAt H' R kvs → GoodR n R → Ended f st R → Q (.ref D) H'
/-- the state within a level -/
structure Lv (H0 H : Hp) (D wl fl : Addr) (n : Int) (B R : List Ent) (kvs : List (Key × V)) (ws : List Int) (F : List Int) : Prop where
  s : Same H0 H
  d : H D = some (.dK kvs)
  w : H wl = some (.lst (ws.map V.int))
  f : H fl = some (.lst (F.map V.int))
  r : RowsAt H R kvs
  g : GoodR n R
  k : ∃ N, R = B ++ N ∧ F = keysE N
theorem ok_least_rows (T : Txt K mg) : FnOk P w K mg base CX0 1 T.a_least_rows T.d_least_rows P_least_rows spLeast := by
  refine T.F_least_rows.ok sc_least_rows (fun vs H Q E h => ?_) (fun cdv A outer s H vs Q E hr h => ?_)
  · obtain ⟨a, b, f, n, st, rfl, _⟩ := h
    rfl
  obtain ⟨a, b, f, n, st, rfl, ⟨xs, ea, hxs⟩, hf, eb, st0, st1, q⟩ := h
  have hn0 : 0 ≤ n := by omega
  refine ⟨_, (pss_cons (ps_setDc (i := 2) (own := [("start", 3)]) (g := (gName 3)) (tt := tYes) rfl sc_least_rows.nd rfl rfl (sw_trueD rfl rfl rfl (by decide +kernel)) (pi_tup (pv 1)) (blkOk_by (N := N_least_rows) (sc := defScope s_least_rows) (by decide +kernel)) (fun _ _ _ _ _ => (pg_name (i := 3) sc_least_rows.nd rfl (Or.inl rfl))) (fun _ _ _ _ _ => pts_nil) (fun _ _ _ _ _ => (pv 3)) (fun _ _ _ _ _ => (pe_tup (pa_cons (pv 3) pa_nil))))
    (pss_cons (ps_set (i := 4) sc_least_rows.nd rfl (Or.inl rfl) (pe_callTy call_list_of (by rfl) T.z_list (by decide +kernel) (pa_cons (pv 1) pa_nil)))
    (pss_cons (ps_while PassesOwn.never (pt_truth (pv 4) (fun _ => rfl))
    (pss_cons (ps_set (i := 5) sc_least_rows.nd rfl (Or.inl rfl) (pe_lst pa_nil))
    (pss_cons (ps_for  PassesOwn.never rfl (pi_list (pv 4)) (pg_name (i := 6) sc_least_rows.nd rfl (Or.inl rfl))
    (pss_one (ps_for  PassesOwn.never rfl (pi_tup (pe_ix ix_list (pv 0) (pv 6) (fun _ _ => rfl))) (pg_name (i := 7) sc_least_rows.nd rfl (Or.inl rfl))
    (pss_one (ps_if (pt_cmp (pc_dnotin (hu_of hr) (pv 7) (pv 2)))
    (pss_cons (ps_dput (hu_of hr) (pv 2) (pv 7) (pe_op op_catA (pe_dget (hu_of hr) (pv 2) (pv 6) (fun _ _ => rfl)) (pe_tup (pa_cons (pv 7) pa_nil))) rfl)
    (pss_one (ps_expr (pe_bm PySem.F.plainAttrs_list PySem.F.slot_list_append PySem.F.type_list_append mt_append (pv 5) (pa_cons (pv 7) pa_nil)))))
    pss_nil)))))
    (pss_one (ps_set (i := 4) sc_least_rows.nd rfl (Or.inl rfl) (pv 5))))))
    (pss_one (ps_ret (pv 2)))))), ?_⟩
  refine ⟨_, rfl, b, rfl, ⟨_, sqt eb⟩, fun D hD => ?_⟩
  refine dc_tup (K := K) (a := b) (xs := [V.int st]) (fun (j : Nat) (H' : Hp) => Same H H' ∧ ∃ kvs, H' D = some (.dK kvs) ∧ RowsAt H' (if j = 0 then [] else [(st, [st])]) kvs) ?_ ?_ ?_ ?_
  · exact ⟨same_new hD _, [], upd_same, .nil⟩
  · rintro i H' _ ⟨s1, _⟩
    exact sqt (s1 _ _ eb)
  · rintro i x H1 hx ⟨s1, kvs, e1, hR⟩
    have hi : i = 0 := by
      cases i with
      | zero => rfl
      | succ i => simp at hx
    subst hi
    have : V.int st = x := by simpa using hx
    subst this
    refine ⟨rfl, yes_if ⟨_, rfl, _, rfl, Nat.le_of_ble_eq_true rfl, fun t ht => ?_⟩⟩
    obtain ⟨H2, e2, s2, k2⟩ := newH ht (.tup [V.int st])
    rw [e2]
    have hk : kvs = [] := by
      rw [if_pos rfl] at hR
      cases hR
      rfl
    subst hk
    refine ⟨_, Sum.inl st, rfl, s2 _ _ e1, by decide, same_put (s1.trans s2) hD, _, upd_same, ?_⟩
    rw [if_neg (by decide)]
    have t3 : Tp H2 (upd H2 D (.dK (putK [] (Sum.inl st : Key) (.ref t)))) := fun a xs e => by
      have ne : a ≠ D := fun z => by
        rw [z, s2 _ _ e1] at e
        cases e
      rw [upd_ne ne]
      exact e
    exact RowsAt.cons (e := (st, [st])) ⟨t, rfl, t3 _ _ k2⟩ .nil
  rintro H1 ⟨s1, kvs1, e1, hR1⟩
  rw [if_neg (show ¬ [V.int st].length = 0 from Nat.one_ne_zero)] at hR1
  have hDne : ∀ {x : Addr} {u : HO}, H x = some u → x ≠ D := fun h z => by
    rw [z, hD] at h
    cases h
  refine ⟨_, rfl, b, _, rfl, .inr (sqt (s1 _ _ eb)), fun wl hwl => ?_⟩
  obtain ⟨H2, e2, s2, k2⟩ := newH hwl (.lst [V.int st])
  rw [e2]
  have g1 : GoodR n [(st, [st])] := ⟨List.nodup_cons.mpr ⟨fun h => (nomatch h), List.nodup_nil⟩, fun e he => by rw [List.mem_singleton.mp he]; exact ⟨st0, st1⟩, fun e he => by rw [List.mem_singleton.mp he]; exact Nat.le_refl 1⟩
  -- level by level
  refine ⟨fun m σ H' => ∃ (L : Nat) (N : List Ent) (kvs : List (Key × V)) (wl : Addr) (y3 y5 y6 y7 : Option V), σ = [some (.ref a), some (.ref b), some (.ref D), y3, some (.ref wl), y5, y6, y7] ∧ Same H H' ∧ H' D = some (.dK kvs) ∧ RowsAt H' (seenE f st (L + 1)) kvs ∧ GoodR n (seenE f st (L + 1)) ∧
    H wl = none ∧ H' wl = some (.lst ((keysE N).map V.int)) ∧ seenE f st (L + 1) = seenE f st L ++ N ∧ m = (n.toNat + 1 - (seenE f st (L + 1)).length) + (if N = [] then 0 else 1), ⟨_, 0, [(st, [st])], kvs1, wl, _, _, _, _, rfl, s1.trans s2, s2 _ _ e1, hR1.tp (SameTp s2), g1, s1.free hwl, k2, rfl, rfl⟩, ?_⟩
  rintro m σ H3 ⟨L, N, kvs, wl, y3, y5, y6, y7, rfl, s3, e3, hR3, g3, hwl0, kw, hN, hm⟩
  refine ⟨_, rfl, !((keysE N).map V.int).isEmpty, .inl ⟨_, sqd kw, rfl⟩, ?_⟩
  by_cases hNe : N = []
  · subst hNe
    refine ifF rfl ?_
    refine ⟨_, rfl, q D kvs _ H3 s3 hD e3 hR3 g3 ⟨L + 1, rfl, fun K hK => ?_⟩⟩
    rw [List.append_nil] at hN
    rw [seen_stop hN K (by omega), hN]
  refine ifT (by
    cases N with
    | nil => exact absurd rfl hNe
    | cons a r => rfl) ?_
  generalize hB : seenE f st (L + 1) = B at *
  refine ⟨fun σ H' => ∃ (N' : List Ent) (kvs : List (Key × V)) (wl : Addr) (y3 y5 y6 y7 : Option V), σ = [some (.ref a), some (.ref b), some (.ref D), y3, some (.ref wl), y5, y6, y7] ∧ Same H H' ∧ H' D = some (.dK kvs) ∧ RowsAt H' (seenE f st (L + 2)) kvs ∧ GoodR n (seenE f st (L + 2)) ∧
    H wl = none ∧ H' wl = some (.lst ((keysE N').map V.int)) ∧ seenE f st (L + 2) = B ++ N', ?_, ?_⟩
  · rintro σ' H' ⟨N', kvs', wl', z3, z5, z6, z7, rfl, t3, f3, hR', gR', hw', kw', hN'⟩
    refine ⟨_, ?_, L + 1, N', kvs', wl', z3, z5, z6, z7, rfl, t3, f3, hR', gR', hw', kw', by rw [hN', hB], rfl⟩
    have f1 := g3.few hn0
    have f2 := gR'.few hn0
    rw [hm, if_neg hNe]
    cases N' with
    | nil =>
      rw [List.append_nil] at hN'
      rw [hN', if_pos rfl]
      omega
    | cons c r =>
      rw [if_neg (by simp)]
      rw [hN', List.length_append, List.length_cons] at f2 ⊢
      omega
  -- a level
  refine ⟨Nat.zero_le _, fun fl hfl => ?_⟩
  obtain ⟨H4, e4, s4, k4⟩ := newH hfl (.lst [])
  rw [e4]
  have hwD : wl ≠ D := fun z => by
    rw [z, e3] at kw
    cases kw
  have hflD : fl ≠ D := fun z => by
    rw [z, e3] at hfl
    cases hfl
  have hflw : fl ≠ wl := fun z => by
    rw [z, kw] at hfl
    cases hfl
  have hDH : H D = none := hD
  have hfH : H fl = none := s3.free hfl
  have L4 : Lv H H4 D wl fl n B B kvs (keysE N) [] := ⟨s3.trans s4, s4 _ _ e3, s4 _ _ kw, k4, hR3.tp (SameTp s4), g3, [], (List.append_nil _).symm, rfl⟩
  refine ⟨_, rfl, wl, rfl, ⟨_, sqd L4.w⟩, ?_⟩
  refine for_list (K := K) (a := wl) (xs := (keysE N).map V.int) (fun (i : Nat) (σ : L2.St) (H' : Hp) => ∃ (R : List Ent) (kvs : List (Key × V)) (F : List Int) (y6 y7 : Option V), σ = [some (.ref a), some (.ref b), some (.ref D), y3, some (.ref wl), some (.ref fl), y6, y7] ∧ R = (N.take i).foldl (stepE f) B ∧ Lv H H' D wl fl n B R kvs (keysE N) F) ?_ ?_ ?_ ?_
  · exact ⟨B, kvs, [], y6, y7, rfl, rfl, L4⟩
  · rintro i σ H' _ ⟨R, kvs', F, y6', y7', rfl, _, hL⟩
    exact sqd hL.w
  · rintro i x σ H5 hx ⟨R, kvs', F, y6', y7', rfl, hRe, hL⟩
    rw [show keysE N = N.map (·.1) from rfl, List.map_map, List.getElem?_map] at hx
    obtain ⟨e, he, rfl⟩ := Option.map_eq_some_iff.mp hx
    have heN := List.mem_of_getElem? he
    have heB : e ∈ B := by
      rw [hN]
      exact List.mem_append_right _ heN
    have heR : e ∈ R := by
      obtain ⟨M, hM, _⟩ := hL.k
      rw [hM]
      exact List.mem_append_left _ heB
    have hin := hL.g.inn e heR
    obtain ⟨x, hat, t, rfl, et⟩ := hxs e.1 hin.1 hin.2
    have kt := hL.s _ _ et
    refine ⟨_, rfl, _, rfl, a, xs, e.1, _, rfl, rfl, sqd (hL.s _ _ ea), hat, t, rfl, ⟨_, sqt kt⟩, ?_⟩
    refine for_tup (K := K) (a := t) (xs := (f e.1).map V.int) (fun (j : Nat) (σ : L2.St) (H' : Hp) => ∃ (R' : List Ent) (kvs : List (Key × V)) (F : List Int) (y7 : Option V), σ = [some (.ref a), some (.ref b), some (.ref D), y3, some (.ref wl), some (.ref fl), some (.int e.1), y7] ∧ R' = ((f e.1).take j).foldl (fun R a => insE R (a, e.2 ++ [a])) R ∧ e ∈ R' ∧ Lv H H' D wl fl n B R' kvs (keysE N) F) ?_ ?_ ?_ ?_
    · exact ⟨R, kvs', F, _, rfl, rfl, heR, hL⟩
    · rintro j σ H' _ ⟨R', kvs, F, y7, rfl, _, _, hL'⟩
      exact sqt (hL'.s _ _ et)
    · rintro j x σ H6 hx6 ⟨R', kvs6, F6, y7, rfl, hR6, heR6, hL6⟩
      rw [List.getElem?_map] at hx6
      obtain ⟨c, hc, rfl⟩ := Option.map_eq_some_iff.mp hx6
      have hcm := hf.mem _ c (List.mem_of_getElem? hc)
      have few := hL6.g.few hn0
      have fn := hf.few
      have hlk := hL6.r.len
      have hnext : ((f e.1).take (j + 1)).foldl (fun R a => insE R (a, e.2 ++ [a])) R = insE R' (c, e.2 ++ [c]) := by
        rw [List.take_add_one, hc, List.foldl_append, ← hR6]
        rfl
      refine ⟨_, rfl, _, rfl, D, _, rfl, DGet.k (k := Sum.inl c) hL6.d, _, rfl, ?_⟩
      by_cases hm : c ∈ keysE R'
      · obtain ⟨e2, he2, hc2⟩ := List.mem_map.mp hm
        obtain ⟨v, hv, _⟩ := hL6.r.yes hL6.g.nd e2 he2
        have hc3 : e2.1 = c := hc2
        rw [hc3] at hv
        refine ifF (by rw [hv] <;> rfl) ?_
        refine ⟨R', kvs6, F6, _, rfl, ?_, heR6, hL6⟩
        rw [hnext]
        unfold insE
        rw [if_pos hm]
      · refine ifT (by rw [hL6.r.no hm] <;> rfl) ?_
        obtain ⟨v, hv, tv, rfl, ev⟩ := hL6.r.yes hL6.g.nd e heR6
        refine ⟨_, rfl, _, rfl, D, _, rfl, (hv ▸ DGet.k (k := Sum.inl e.1) hL6.d), ?_⟩
        refine ⟨_, rfl, Nat.le_of_ble_eq_true rfl, fun tc htc => ?_⟩
        obtain ⟨H7, e7, s7, k7⟩ := newH htc (.tup [V.int c])
        rw [e7]
        have hel := hL6.g.len e heR6
        refine catA_of (s7 _ _ ev) k7 (by rw [List.length_map, List.length_singleton]; omega) fun p8 H8 s8 k8 => ?_
        have s78 := s7.trans s8
        have d8 := s78 _ _ hL6.d
        refine ⟨_, rfl, _, rfl, D, _, rfl, DPut.k (k := Sum.inl c) d8 (big' (by omega)), ?_⟩
        have oc : OptIn H8 (e.2 ++ [c]) (.ref p8) := ⟨p8, rfl, by rw [k8, ints_snoc2]⟩
        have r9 := (hL6.r.tp (SameTp s78)).put hm oc
        have g9 := hL6.g.ins (p := c) (row := e.2) hcm hel
        generalize hkk : putK kvs6 (Sum.inl c : Key) (V.ref p8) = kvs9 at r9 ⊢
        have t9 : Tp H8 (upd H8 D (.dK kvs9)) := fun a xs e => by
          have ne : a ≠ D := fun z => by
            rw [z, d8] at e
            cases e
          rw [upd_ne ne]
          exact e
        have f8 := s78 _ _ hL6.f
        have w8 := s78 _ _ hL6.w
        have s9 : Same H (upd H8 D (.dK kvs9)) := same_put (hL6.s.trans s78) hDH
        refine ⟨_, rfl, .inl ⟨rfl, _, sqd (by rw [upd_ne hflD]; exact f8)⟩, _, rfl, fl, _, _, rfl, rfl, by rw [upd_ne hflD]; exact f8, big' ?_, ?_⟩
        · obtain ⟨M, hM, hF⟩ := hL6.k
          rw [List.length_map, hF, show (keysE M).length = M.length from List.length_map ..]
          rw [hM, List.length_append] at few
          omega
        have e10 : upd (upd H8 D (.dK kvs9)) fl (.lst (F6.map V.int ++ [V.int c])) fl = some (.lst ((F6 ++ [c]).map V.int)) := by rw [upd_same, ints_snoc2]
        have t10 : Tp (upd H8 D (.dK kvs9)) (upd (upd H8 D (.dK kvs9)) fl (.lst (F6.map V.int ++ [V.int c]))) := fun a xs e => by
          have ne : a ≠ fl := fun z => by
            rw [z, upd_ne hflD, f8] at e
            cases e
          rw [upd_ne ne]
          exact e
        refine ⟨insE R' (c, e.2 ++ [c]), kvs9, F6 ++ [c], _, rfl, hnext.symm, ?_, ?_⟩
        · obtain ⟨M, hM, _⟩ := ins_ext R' (c, e.2 ++ [c])
          rw [hM]
          exact List.mem_append_left _ heR6
        · refine ⟨same_put s9 hfH, by rw [upd_ne hflD.symm, upd_same], by rw [upd_ne hflw.symm, upd_ne hwD]; exact w8, e10, (r9.tp t9).tp t10, g9, ?_⟩
          obtain ⟨M, hM, hF⟩ := hL6.k
          refine ⟨M ++ [(c, e.2 ++ [c])], ?_, by rw [keysE_app, hF]; rfl⟩
          rw [show insE R' (c, e.2 ++ [c]) = R' ++ [(c, e.2 ++ [c])] by unfold insE; rw [if_neg hm], hM, List.append_assoc]
    · rintro σ H6 ⟨R', kvs6, F6, y7, rfl, hR6, heR6, hL6⟩
      rw [List.length_map, List.take_length] at hR6
      refine ⟨R', kvs6, F6, _, _, rfl, ?_, hL6⟩
      rw [List.take_add_one, he, List.foldl_append, ← hRe, hR6]
      rfl
  · rintro σ H5 ⟨R, kvs', F, y6', y7', rfl, hRe, hL⟩
    rw [show ((keysE N).map V.int).length = N.length by rw [List.length_map]; exact List.length_map .., List.take_length] at hRe
    have hlv := (seen_level f st L N (by rw [hB]; exact hN)).1
    rw [hB] at hlv
    rw [← hlv] at hRe
    obtain ⟨N', h1, h2⟩ := hL.k
    refine ⟨_, rfl, N', kvs', fl, y3, _, y6', y7', rfl, hL.s, hL.d, by rw [← hRe]; exact hL.r, by rw [← hRe]; exact hL.g, hfH, by rw [hL.f, h2], by rw [← hRe]; exact h1⟩
end
end NL

namespace NL
open PySem PySem.Spec PyProof.Rows L2
/-! ### the successors by a strategy -/
def scO (A : Ar) (G : List Int) (k : Nat) : List Int := match A[k]?, G[k]? with
  | some os, some g => if g = -1 then [] else (os[g.toNat]?).getD []
  | _, _ => []
def scF (A : Ar) (G : List Int) (p : Int) : List Int := if 0 ≤ p then scO A G p.toNat else []
structure StG (A : Ar) (G : List Int) : Prop where
  len : G.length = A.length
  ix : ∀ (k : Nat) (g : Int) (os : Pos'), G[k]? = some g → A[k]? = some os → g = -1 ∨ (0 ≤ g ∧ g < os.length)
theorem sc_good {A : Ar} {G : List Int} (h : ArG A) : SucG (scF A G) A.length := by
  refine ⟨fun p a ha => ?_, by have := h.1; omega⟩
  unfold scF at ha
  split at ha
  · unfold scO at ha
    split at ha
    · rename_i os g h1 h2
      split at ha
      · cases ha
      · cases h3 : os[g.toNat]? with
        | none =>
          rw [h3] at ha
          cases ha
        | some o =>
          rw [h3] at ha
          exact ((h.2 os (List.mem_of_getElem? h1)).2 o (List.mem_of_getElem? h3)).mem a ha
    · cases ha
  · cases ha
theorem sc_len {A : Ar} {G : List Int} (h : ArG A) (p : Int) : (scF A G p).length ≤ A.length + 1 := by
  have nd : (scF A G p).Nodup ∧ ∀ a ∈ scF A G p, -1 ≤ a ∧ a < A.length := by
    refine ⟨?_, (sc_good h).mem p⟩
    unfold scF
    split
    · unfold scO
      split
      · rename_i os g h1 h2
        split
        · exact List.nodup_nil
        · cases h3 : os[g.toNat]? with
          | none => exact List.nodup_nil
          | some o => exact ((h.2 os (List.mem_of_getElem? h1)).2 o (List.mem_of_getElem? h3)).asc.imp fun h => Int.ne_of_lt h
      · exact List.nodup_nil
    · exact List.nodup_nil
  exact nd_len (-1) (A.length + 1) _ nd.1 fun x hx => by
    have := nd.2 x hx
    omega
def lostB (A : Ar) (G Kp : List Int) (p : Int) : Bool := (scF A G p).isEmpty || !decide (p ∈ Kp)
theorem upd_old {H0 H1 H2 : Hp} {D : Addr} {u : HO} (s : Same H0 H1) (hD : H0 D = none) (k : ∀ b o, b ≠ D → H1 b = some o → H2 b = some o) : Same H0 (upd H2 D u) := fun b o e => by
  have ne : b ≠ D := fun z => by
    rw [z, hD] at e
    cases e
  rw [upd_ne ne]
  exact k b o ne (s _ _ e)
theorem dp_ints {K : PySem.W.Frag} {H : Hp} : ∀ l : List Int, DpAll K H (l.map V.int) (l.map PyData.int)
  | [] => .nil
  | a :: r => .cons (.int a) (dp_ints r)
theorem lay_ints : ∀ l : List Int, PyData.canLayAll0 (l.map PyData.int) = true ∧ PyData.depthAll (l.map PyData.int) = 0
  | [] => ⟨rfl, rfl⟩
  | a :: r => by
    obtain ⟨h1, h2⟩ := lay_ints r
    refine ⟨?_, ?_⟩
    · show (true && PyData.canLayAll0 (r.map PyData.int)) = true
      rw [h1]
      rfl
    · show max 0 (PyData.depthAll (r.map PyData.int)) = 0
      rw [h2]
      rfl
theorem shaped_tup (l : List Int) : SeqAt.shaped (.tuple (l.map PyData.int)) = true := by
  obtain ⟨h1, h2⟩ := lay_ints l
  show (PyData.canLayAll0 (l.map PyData.int) && decide (PyData.depthAll (l.map PyData.int) + 1 ≤ 64)) = true
  rw [h1, h2]
  rfl
theorem rows_one {H : Hp} : ∀ {R : List Ent} {kvs : List (Key × V)} {i : Nat} {k : Key} {u u' : V}, RowsAt H R kvs → (keysE R).Nodup → kvs[i]? = some (k, u) → valV kvs k = some u' → u' = u
  | _, _, i, k, u, u', .nil, _, h, _ => by simp at h
  | _, _, 0, k, u, u', .cons g r, _, h, hv => by
    rw [List.getElem?_cons_zero] at h
    injection h with h
    injection h with h1 h2
    subst h1
    rw [valV_pos rfl] at hv
    injection hv with hv
    rw [← hv, h2]
  | _, _, i + 1, k, u, u', .cons (e := q) (R := R) g r, hd, h, hv => by
    rw [List.getElem?_cons_succ] at h
    have hd' := List.nodup_cons.mp (show (q.1 :: keysE R).Nodup from hd)
    obtain ⟨e, he, rfl, _⟩ := r.get i k u h
    rw [valV_neg (fun z => hd'.1 (by
      injection z with z
      rw [show q.1 = e.1 from z]
      exact List.mem_map_of_mem (List.mem_of_getElem? he)))] at hv
    exact rows_one r hd'.2 h hv
theorem ans_at {lost : Int → Bool} : ∀ {R : List Ent} {i : Nat} {e : Ent}, (∀ k q, k < i → R[k]? = some q → lost q.1 = false) → R[i]? = some e → lost e.1 = true → ansE lost R = some e
  | [], i, e, _, h, _ => by simp at h
  | q :: r, 0, e, _, h, hl => by
    have : q = e := by simpa using h
    subst this
    unfold ansE
    rw [List.find?_cons, hl]
  | q :: r, i + 1, e, hu, h, hl => by
    have h0 := hu 0 q (Nat.succ_pos i) rfl
    unfold ansE
    rw [List.find?_cons, h0]
    exact ans_at (i := i) (fun k z hk hz => hu (k + 1) z (by omega) (by rw [List.getElem?_cons_succ]; exact hz)) (by rw [List.getElem?_cons_succ] at h; exact h) hl
theorem ans_no {lost : Int → Bool} {R : List Ent} (h : ∀ (k : Nat) q, R[k]? = some q → lost q.1 = false) : ansE lost R = none := by
  refine List.find?_eq_none.mpr fun e he => ?_
  obtain ⟨k, hk⟩ := List.mem_iff_getElem?.mp he
  rw [h k e hk]
  exact Bool.false_ne_true
section
variable {P : Program} {w : World} {K : PySem.W.Frag} {mg : Str → Option Value} {base : Heap}
/-! ### _successors_by -/
def spSucBy : Sp := fun vs H Q _ => ∃ (v : V) (A : Ar) (g : Addr) (G : List Int), vs = [v, .ref g] ∧ ArIn H A v ∧ ArG A ∧ H g = some (.tup (G.map V.int)) ∧ StG A G ∧
  ∀ a H', Same H H' → SucA H' a (scF A G) A.length → Q (.ref a) H'
theorem ok_successors_by (T : Txt K mg) : FnOk P w K mg base CX0 1 T.a_successors_by T.d_successors_by P_successors_by spSucBy := by
  refine T.F_successors_by.ok sc_successors_by (fun vs H Q E h => ?_) (fun cdv A outer s H vs Q E hr h => ?_)
  · obtain ⟨v, A, g, G, rfl, _⟩ := h
    rfl
  obtain ⟨v, A0, g, G, rfl, ⟨b0, xs, rfl, e0, hxs⟩, hG, eg, hS, q⟩ := h
  have hxl := hxs.1
  have h46 := hG.1
  refine ⟨_, (pss_one (ps_ret (pe_op op_cat (pe_lc (own := [("index", 2), ("options", 3)]) (g := (gTup K 2 (gCons (gName 2) (gCons (gName 3) gNil)))) (tt := tYes) rfl sc_successors_by.nd (RZ.pi_zipA (by rfl) T.z_zip (pa_cons (pv 1) (pa_cons (pv 0) pa_nil))) (blkOk_by (N := N_successors_by) (sc := defScope s_successors_by) (by decide +kernel)) (fun _ _ _ _ _ => (pg_tup rfl (pgs_cons (pg_name (i := 2) sc_successors_by.nd rfl (Or.inl rfl)) (pgs_cons (pg_name (i := 3) sc_successors_by.nd rfl (Or.inl rfl)) pgs_nil)))) (fun _ _ _ _ _ => pts_nil) (fun _ _ _ _ _ => (pe_ifExp (pt_cmpR op_eq (pv 2) (pe_un un_neg pe_int) (nomark _)) (pe_tup pa_nil) (pe_ix (ix_tupK (K := K) rfl) (pv 3) (pv 2) (fun _ _ => rfl))))) (pe_lst (pa_cons (pe_tup pa_nil) pa_nil))))), ?_⟩
  refine ⟨_, rfl, _, rfl, g, b0, _, _, rfl, .inr ⟨sqt eg, sqt e0, fun D hD => ?_⟩⟩
  refine lc_pairs (K := K) (a := g) (b := b0) (xs := G.map V.int) (ys := xs) A0.length (by rw [List.length_map, hS.len, hxl, Nat.min_self]) (fun (j : Nat) (H' : Hp) => Same H H' ∧ ∃ zs, H' D = some (.lst zs) ∧ Each (OptIn H') ((List.range j).map (scO A0 G)) zs) ?_ ?_ ?_ ?_
  · exact ⟨same_new hD _, [], upd_same, .nil⟩
  · rintro j H' ⟨s1, _⟩
    exact ⟨sqt (s1 _ _ eg), sqt (s1 _ _ e0)⟩
  · rintro j x y t H1 hx hy ⟨s1, zs, e1, hzs⟩ ht
    rw [List.getElem?_map] at hx
    obtain ⟨gi, hgi, rfl⟩ := Option.map_eq_some_iff.mp hx
    have hj : j < A0.length := by
      have := (List.getElem?_eq_some_iff.mp hgi).1
      rw [hS.len] at this
      exact this
    have hos := List.getElem?_eq_getElem hj
    generalize A0[j] = os at hos
    obtain ⟨b1, ys, rfl, e1', hys⟩ := hxs.2 j os y hos hy
    obtain ⟨H2, e2, s2, k2⟩ := newH ht (.tup [V.int gi, V.ref b1])
    rw [e2]
    have s12 := s1.trans s2
    have hzl := hzs.1
    rw [List.length_map, List.length_range] at hzl
    have fin : ∀ (u : V) (H3 : Hp), Same H2 H3 → OptIn H3 (scO A0 G j) u → ∃ acc, H3 D = some (.lst acc) ∧ acc.length < sizeLine ∧ (Same H (upd H3 D (.lst (acc ++ [u]))) ∧ ∃ zs, (upd H3 D (.lst (acc ++ [u]))) D = some (.lst zs) ∧ Each (OptIn (upd H3 D (.lst (acc ++ [u])))) ((List.range (j + 1)).map (scO A0 G)) zs) := fun u H3 s3 hu => by
      have d3 := (s2.trans s3) _ _ e1
      refine ⟨zs, d3, big' (by omega), same_put (s12.trans s3) hD, _, upd_same, ?_⟩
      have tt : Tp H3 (upd H3 D (.lst (zs ++ [u]))) := tp_put Tp.refl d3
      rw [List.range_succ, List.map_append]
      exact (hzs.mono fun o x => OptIn.tp (((SameTp (s2.trans s3)).trans tt))).snoc (hu.tp tt)
    refine ⟨t, _, rfl, sqt k2, rfl, _, _, rfl, _, _, rfl, rfl, rfl, yes_if ?_⟩
    refine ⟨_, rfl, _, rfl, rfl, _, rfl, ?_⟩
    refine ite2 (fun z => ?_) (fun z => ?_)
    · have hg1 : gi = -1 := int_eq z
      refine ⟨Nat.zero_le _, fun te hte => ?_⟩
      refine fin _ _ (same_new hte _) ⟨te, rfl, ?_⟩
      rw [upd_same]
      unfold scO
      rw [hos, hgi]
      simp [hg1]
    · have hg1 : gi ≠ -1 := int_ne z
      have hix := (hS.ix j gi os hgi hos).resolve_left hg1
      obtain ⟨o, x, ho, hat, hox⟩ := hys.atI hix.1 hix.2
      refine ⟨_, rfl, _, rfl, b1, _, _, _, rfl, rfl, sqt (s12 _ _ e1'), hat, ?_⟩
      refine fin _ _ (Same.refl _) ?_
      have : scO A0 G j = o := by
        unfold scO
        rw [hos, hgi]
        simp [hg1, ho]
      rw [this]
      exact hox.tp (SameTp s12)
  · rintro H1 ⟨s1, zs, e1, hzs⟩
    have hzl := hzs.1
    rw [List.length_map, List.length_range] at hzl
    refine ⟨Nat.zero_le _, fun te hte => ?_⟩
    obtain ⟨H2, e2, s2, k2⟩ := newH hte (.tup [])
    rw [e2]
    refine ⟨Nat.le_of_ble_eq_true rfl, fun l hl => ?_⟩
    obtain ⟨H3, e3, s3, k3⟩ := newH hl (.lst [V.ref te])
    rw [e3]
    refine ⟨D, l, _, _, rfl, rfl, (s2.trans s3) _ _ e1, k3, big (by rw [List.length_singleton]; omega), fun r hr' => ?_⟩
    obtain ⟨H4, e4, s4, k4⟩ := newH hr' (.lst (zs ++ [V.ref te]))
    rw [e4]
    have s24 := (s2.trans s3).trans s4
    refine q r H4 (s1.trans s24) ⟨_, k4, fun p hp1 hp2 => ?_⟩
    have hE : Each (OptIn H4) ((List.range A0.length).map (scO A0 G)) zs := hzs.mono fun o x => OptIn.tp (SameTp s24)
    by_cases hp0 : 0 ≤ p
    · obtain ⟨o, x, ho, hat, hox⟩ := (hE.snoc (a := []) (x := V.ref te) ⟨te, rfl, (s3.trans s4) _ _ k2⟩).atI hp0 (by rw [List.length_append, List.length_map, List.length_range]; show p < ((A0.length + 1 : Nat) : Int); omega)
      refine ⟨x, hat, ?_⟩
      rw [List.getElem?_append_left (by rw [List.length_map, List.length_range]; omega), List.getElem?_map, List.getElem?_range (by omega)] at ho
      have : scO A0 G p.toNat = o := by simpa using ho
      unfold scF
      rw [if_pos hp0, this]
      exact hox
    · have : p = -1 := by omega
      subst this
      exact ⟨_, at_last, te, rfl, (s3.trans s4) _ _ k2⟩
/-! ### least_bad_row -/
def DueIn (H : Hp) : Option Ent → V → Prop
  | none, u => u = .non
  | some e, u => ∃ p, u = .ref p ∧ H p = some (.tup (e.2.tail.map V.int))
def spBad : Sp := fun vs H Q _ => ∃ (v : V) (A : Ar) (kp g : Addr) (Kp G : List Int) (st : Int), vs = [v, .ref kp, .ref g, .int st] ∧ ArIn H A v ∧ ArG A ∧ H kp = some (.tup (Kp.map V.int)) ∧ H g = some (.tup (G.map V.int)) ∧ StG A G ∧ 0 ≤ st ∧ st < A.length ∧
  ∀ R u H', Same H H' → Ended (scF A G) st R → DueIn H' (ansE (lostB A G Kp) R) u → Q u H'
theorem cut_one (l : List Int) : cutV (l.map V.int) (some 1) none = l.tail.map V.int := by
  unfold cutV
  rw [HT.sIx_none, show HT.sIx (l.map V.int).length 0 (some 1) = min 1 (l.map V.int).length from HT.sIx_nat _ _ _]
  cases l with
  | nil => rfl
  | cons a r =>
    rw [show min 1 ((a :: r).map V.int).length = 1 by rw [List.length_map, List.length_cons]; omega, List.map_cons, List.drop_succ_cons, List.drop_zero, List.tail_cons]
    exact List.take_of_length_le (by rw [List.length_cons]; omega)
end
end NL

namespace NL
open PySem PySem.Spec PyProof.Rows L2
theorem getD_at {os : Pos'} {g : Int} {o : Opt} (h : os[g.toNat]? = some o) : (os[g.toNat]?).getD [] = o := by rw [h]; rfl
theorem sc_at {A : Ar} {G : List Int} {p g : Int} {os : Pos'} {o : Opt} (hp : 0 ≤ p) (h1 : A[p.toNat]? = some os) (h2 : G[p.toNat]? = some g) (hg : g ≠ -1) (h3 : os[g.toNat]? = some o) : scF A G p = o := by
  unfold scF scO
  rw [if_pos hp, h1, h2]
  simp [hg, h3]
section
variable {P : Program} {w : World} {K : PySem.W.Frag} {mg : Str → Option Value} {base : Heap}
/-! ### _law_some -/
def spSome : Sp := fun vs H Q _ => ∃ (d : Addr) (v : V) (A : Ar) (sh : Int), vs = [.ref d, v, .int sh] ∧ Dr H d ∧ ArIn H A v ∧ A.length ≤ 400 ∧ ∀ (p : Addr) (o : List Int) (H' : Hp), Go d H H' → H' p = some (.tup (o.map V.int)) → Q (.ref p) H'
theorem ok_law_some (T : Txt K mg) : FnOk P w K mg base CX0 2 T.a_law_some T.d_law_some P_law_some spSome := by
  have G_law_take := ok_law_take (P := P) (w := w) (base := base) T
  refine T.F_law_some.ok sc_law_some (fun vs H Q E h => ?_) (fun cdv A outer s H vs Q E hr h => ?_)
  · obtain ⟨d, v, A, sh, rfl, _⟩ := h
    rfl
  obtain ⟨d, v, A0, sh, rfl, hD, ⟨b0, xs, rfl, e0, hxs⟩, h16, q⟩ := h
  have hxl := hxs.1
  refine ⟨_, (pss_cons (ps_if (pt_cmpR op_gt (pe_callB call_len_seq (by rfl) T.z_len PySem.boot_len (pa_cons (pv 1) pa_nil)) pe_int (nomark _))
    (pss_cons (ps_set (i := 3) sc_law_some.nd rfl (Or.inr rfl) (pe_op op_add pe_int (pe_call G_law_take (hr.mono (by omega)) (by rfl) T.m_law_take T.F_law_take.kp T.b_law_take .nil pass0 (pa_cons (pv 0) (pa_cons pe_int pa_nil)))))
    (pss_cons (ps_set (i := 4) sc_law_some.nd rfl (Or.inr rfl) (pe_call G_law_take (hr.mono (by omega)) (by rfl) T.m_law_take T.F_law_take.kp T.b_law_take .nil pass0 (pa_cons (pv 0) (pa_cons pe_int pa_nil))))
    (pss_one (ps_ret (pe_callTy call_tuple_of (by rfl) T.z_tuple (by decide +kernel) (pa_cons (pe_lc (own := [("k", 5)]) (g := (gName 5)) (tt := _) rfl sc_law_some.nd (pi_range1 (by rfl) T.z_range (pa_cons (pe_callB call_len_seq (by rfl) T.z_len PySem.boot_len (pa_cons (pv 1) pa_nil)) pa_nil)) (blkOk_by (N := N_law_some) (sc := defScope s_law_some) (by decide +kernel)) (fun _ _ _ _ _ => (pg_name (i := 5) sc_law_some.nd rfl (Or.inl rfl))) (fun _ _ _ _ _ => (pts_one (pt_cmpR op_eq (pe_cmpR op_gt (pe_op op_mod (pe_callTy call_int1 (by rfl) T.z_int (by decide +kernel) (pa_cons (pe_op op_add (pv 5) (pv 4)) pa_nil)) (pv 3)) pe_int (nomark _)) (pe_cmpR op_gt (pv 2) pe_int (nomark _)) (nomark _)))) (fun _ _ _ _ _ => (pv 5))) pa_nil))))))
    pss_nil)
    (pss_cons (ps_if (PW.pt (pw_and (pt_cmpR op_eq (pe_call G_law_take (hr.mono (by omega)) (by rfl) T.m_law_take T.F_law_take.kp T.b_law_take .nil pass0 (pa_cons (pv 0) (pa_cons pe_int pa_nil))) pe_int (nomark _)) (pw_and1 (pt_cmpR op_gt (pv 2) pe_int (nomark _)))))
    (pss_one (ps_ret (pe_tupRg rfl (by rfl) T.z_tuple (prg_1 (by rfl) T.z_range (pe_callB call_len_seq (by rfl) T.z_len PySem.boot_len (pa_cons (pv 1) pa_nil))))))
    pss_nil)
    (pss_one (ps_ret (pe_callTy call_tuple_of (by rfl) T.z_tuple (by decide +kernel) (pa_cons (pe_lc (own := [("k", 5)]) (g := (gName 5)) (tt := _) rfl sc_law_some.nd (pi_range1 (by rfl) T.z_range (pa_cons (pe_callB call_len_seq (by rfl) T.z_len PySem.boot_len (pa_cons (pv 1) pa_nil)) pa_nil)) (blkOk_by (N := N_law_some) (sc := defScope s_law_some) (by decide +kernel)) (fun _ _ _ _ _ => (pg_name (i := 5) sc_law_some.nd rfl (Or.inl rfl))) (fun _ _ _ _ _ => (pts_one (pt_cmpR op_lt (pe_call G_law_take (hr.mono (by omega)) (by rfl) T.m_law_take T.F_law_take.kp T.b_law_take .nil pass0 (pa_cons (pv 0) (pa_cons pe_int pa_nil))) (pv 2) (nomark _)))) (fun _ _ _ _ _ => (pv 5))) pa_nil)))))), ?_⟩
  refine ⟨_, rfl, b0, _, rfl, .inr (sqt e0), _, _, rfl, rfl, _, rfl, ?_⟩
  refine ite2 (fun z16 => ?_) (fun z16 => ?_)
  · refine ⟨_, rfl, d, 9, rfl, hD, by decide, fun u1 H1 g1 a1 b1 => ⟨_, _, rfl, rfl, ?_⟩⟩
    dsimp only
    generalize hst : (2 : Int) + u1 = stp
    refine ⟨_, rfl, d, 4, rfl, g1.dr, by decide, fun u2 H2 g2 a2 b2 => ?_⟩
    have g12 := g1.trans g2
    have e2 := g12.tp hD _ _ e0
    refine ⟨_, rfl, b0, _, rfl, .inr (sqt e2), _, rfl, by omega, by omega, fun D hD' => ?_⟩
    have s1 := same_new hD' (.lst [])
    refine lc_range (lo := 0) (n := ((xs.length : Nat) : Int).toNat) (fun (i : Nat) (H' : Hp) => ∃ o : List Int, Go d H H' ∧ H' D = some (.lst (o.map V.int)) ∧ o.length ≤ i) ?_ ?_ ?_
    · exact ⟨[], g12.trans (.same g2.dr s1), upd_same, Nat.le_refl 0⟩
    · rintro i H' hi ⟨o, g3, e3, hlen⟩
      refine ⟨rfl, ?_⟩
      refine ⟨_, rfl, _, rfl, _, _, rfl, rfl, .inl ⟨_, rfl, _, rfl, _, _, rfl, rfl, (by show (0 : Int) < stp; omega), _, _, rfl, rfl, _, rfl, _, _, rfl, rfl, rfl, _, rfl, ?_⟩⟩
      refine ite2 (fun z => ?_) (fun z => ⟨o, g3, e3, by omega⟩)
      exact ⟨_, rfl, _, e3, big' (by rw [List.length_map]; omega), o ++ [0 + (i : Int)], g3.put2 (g12.free hD') (new_ne g2.dr hD'), by rw [upd_same, List.map_append]; rfl, by rw [List.length_append]; exact Nat.add_le_add_right hlen 1⟩
    · rintro H3 ⟨o, g3, e3, hlen⟩
      refine ⟨D, _, rfl, .inl ⟨sqd e3, fun t ht => ?_⟩⟩
      exact q t o _ (g3.trans (Go.new g3.dr ht)) upd_same
  refine ⟨_, rfl, d, 6, rfl, hD, by decide, fun u H1 g1 _ _ => ⟨rfl, _, rfl, ?_⟩⟩
  have e1 := g1.tp hD _ _ e0
  refine ite2 (fun z => ⟨_, rfl, _, _, rfl, rfl, _, rfl, ite2 (fun z2 => ?_) (fun z2 => ?_)⟩) (fun z => ?_)
  · refine ⟨_, rfl, b0, _, rfl, .inr (sqt e1), _, rfl, ⟨by omega, by omega, by omega, by omega, by omega⟩, fun q1 hq1 => ?_⟩
    rw [rg_ints]
    exact q q1 _ _ (g1.trans (Go.new g1.dr hq1)) upd_same
  all_goals
    refine ⟨_, rfl, b0, _, rfl, .inr (sqt e1), _, rfl, by omega, by omega, fun D hD' => ?_⟩
    have nDd := new_ne g1.dr hD'
    have s1 := same_new hD' (.lst [])
    refine lc_range (lo := 0) (n := ((xs.length : Nat) : Int).toNat) (fun (i : Nat) (H' : Hp) => ∃ o : List Int, Go d H H' ∧ H' D = some (.lst (o.map V.int)) ∧ o.length ≤ i) ?_ ?_ ?_
    · exact ⟨[], g1.trans (.same g1.dr s1), upd_same, Nat.le_refl 0⟩
    · rintro i H' hi ⟨o, g2, e2, hlen⟩
      refine ⟨rfl, ?_⟩
      refine ⟨_, rfl, d, 8, rfl, g2.dr, by decide, fun u H2 g3 _ _ => ⟨_, rfl, _, _, rfl, rfl, _, rfl, ?_⟩⟩
      have e3 := g3.fr D _ nDd e2
      refine ite2 (fun z => ?_) (fun z => ⟨o, g2.trans g3, e3, by omega⟩)
      exact ⟨_, rfl, _, e3, big' (by rw [List.length_map]; omega), o ++ [0 + (i : Int)], (g2.trans g3).put2 (g1.free hD') nDd, by rw [upd_same, List.map_append]; rfl, by rw [List.length_append]; exact Nat.add_le_add_right hlen 1⟩
    · rintro H2 ⟨o, g2, e2, hlen⟩
      refine ⟨D, _, rfl, .inl ⟨sqd e2, fun t ht => ?_⟩⟩
      exact q t o _ (g2.trans (Go.new g2.dr ht)) upd_same
/-! ### _law_strategy -/
def spStrat : Sp := fun vs H Q _ => ∃ (d : Addr) (v : V) (A : Ar), vs = [.ref d, v] ∧ Dr H d ∧ ArIn H A v ∧ A.length ≤ 400 ∧ ∀ (p : Addr) (G : List Int) (H' : Hp), Go d H H' → H' p = some (.tup (G.map V.int)) → StG A G → Q (.ref p) H'
theorem ok_law_strategy (T : Txt K mg) : FnOk P w K mg base CX0 2 T.a_law_strategy T.d_law_strategy P_law_strategy spStrat := by
  have G_law_take := ok_law_take (P := P) (w := w) (base := base) T
  refine T.F_law_strategy.ok sc_law_strategy (fun vs H Q E h => ?_) (fun cdv A outer s H vs Q E hr h => ?_)
  · obtain ⟨d, v, A, rfl, _⟩ := h
    rfl
  obtain ⟨d, v, A0, rfl, hD, ⟨b0, xs, rfl, e0, hxs⟩, h46, q⟩ := h
  have hxl := hxs.1
  refine ⟨_, (pss_cons (ps_set (i := 2) sc_law_strategy.nd rfl (Or.inl rfl) (pe_call G_law_take (hr.mono (by omega)) (by rfl) T.m_law_take T.F_law_take.kp T.b_law_take .nil pass0 (pa_cons (pv 0) (pa_cons pe_int pa_nil))))
    (pss_cons (ps_set (i := 3) sc_law_strategy.nd rfl (Or.inl rfl) (pe_op op_add pe_int (pe_call G_law_take (hr.mono (by omega)) (by rfl) T.m_law_take T.F_law_take.kp T.b_law_take .nil pass0 (pa_cons (pv 0) (pa_cons pe_int pa_nil)))))
    (pss_cons (ps_set (i := 4) sc_law_strategy.nd rfl (Or.inl rfl) (pe_ix ix_list (pe_lst (pa_cons pe_int (pa_cons pe_int (pa_cons pe_int pa_nil)))) (pe_call G_law_take (hr.mono (by omega)) (by rfl) T.m_law_take T.F_law_take.kp T.b_law_take .nil pass0 (pa_cons (pv 0) (pa_cons pe_int pa_nil))) (fun _ _ => rfl)))
    (pss_cons (ps_set (i := 5) sc_law_strategy.nd rfl (Or.inl rfl) (pe_call G_law_take (hr.mono (by omega)) (by rfl) T.m_law_take T.F_law_take.kp T.b_law_take .nil pass0 (pa_cons (pv 0) (pa_cons pe_int pa_nil))))
    (pss_cons (ps_set (i := 6) sc_law_strategy.nd rfl (Or.inl rfl) (pe_lst pa_nil))
    (pss_cons (ps_for  PassesOwn.never rfl (pi_range1 (by rfl) T.z_range (pa_cons (pe_callB call_len_seq (by rfl) T.z_len PySem.boot_len (pa_cons (pv 1) pa_nil)) pa_nil)) (pg_name (i := 7) sc_law_strategy.nd rfl (Or.inl rfl))
    (pss_cons (ps_set (i := 8) sc_law_strategy.nd rfl (Or.inl rfl) (pe_op op_mod (pe_callTy call_int1 (by rfl) T.z_int (by decide +kernel) (pa_cons (pe_op op_add (pe_op op_add (pv 2) (pe_op op_mul (pv 3) (pv 7))) (pe_op op_mul (pv 7) (pv 7))) pa_nil)) pe_int))
    (C8.pss_cut (ps_if (pt_cmpR op_eq (pv 5) pe_int (nomark _))
    (pss_one (ps_set (i := 8) sc_law_strategy.nd rfl (Or.inl rfl) pe_int))
    pss_nil)
    (pss_one (ps_if (PW.pt (pw_or (pt_cmpR op_eq (pe_callB call_len_seq (by rfl) T.z_len PySem.boot_len (pa_cons (pe_ix ix_tup (pv 1) (pv 7) (fun _ _ => rfl)) pa_nil)) pe_int (nomark _)) (pw_or1 (pt_cmpR op_eq (pe_op op_mod (pe_callTy call_int1 (by rfl) T.z_int (by decide +kernel) (pa_cons (pv 8) pa_nil)) (pv 4)) pe_int (nomark _)))))
    (pss_one (ps_expr (pe_bm PySem.F.plainAttrs_list PySem.F.slot_list_append PySem.F.type_list_append mt_append (pv 6) (pa_cons (pe_un un_neg pe_int) pa_nil))))
    (pss_one (ps_expr (pe_bm PySem.F.plainAttrs_list PySem.F.slot_list_append PySem.F.type_list_append mt_append (pv 6) (pa_cons (pe_op op_mod (pe_op op_fdiv (pv 8) pe_int) (pe_callB call_len_seq (by rfl) T.z_len PySem.boot_len (pa_cons (pe_ix ix_tup (pv 1) (pv 7) (fun _ _ => rfl)) pa_nil))) pa_nil)))))))))
    (pss_one (ps_ret (pe_callTy call_tuple_of (by rfl) T.z_tuple (by decide +kernel) (pa_cons (pv 6) pa_nil)))))))))), ?_⟩
  refine ⟨_, rfl, d, 900, rfl, hD, by decide, fun u1 H1 g1 a1 b1 => ?_⟩
  refine ⟨_, rfl, d, 900, rfl, g1.dr, by decide, fun u2 H2 g2 a2 b2 => ⟨_, _, rfl, rfl, ?_⟩⟩
  dsimp only
  generalize hst : (1 : Int) + u2 = stp
  refine ⟨Nat.le_of_ble_eq_true rfl, fun l hl => ?_⟩
  have g2l := g2.trans (Go.new (o := .lst [.int 3, .int 9, .int 97]) g2.dr hl)
  refine ⟨_, rfl, d, 3, rfl, g2l.dr, by decide, fun u3 H3 g3 a3 b3 => ?_⟩
  have el : H3 l = some (.lst ([3, 9, 97].map V.int)) := g3.fr l _ (new_ne g2.dr hl) upd_same
  obtain ⟨rare, hra, hrm⟩ := atI_map (f := V.int) (xs := ([3, 9, 97] : List Int)) a3 b3
  have hr3 : 0 < rare := by
    simp only [List.mem_cons, List.not_mem_nil, or_false] at hrm
    omega
  refine ⟨l, _, _, _, rfl, rfl, sqd el, hra, ?_⟩
  refine ⟨_, rfl, d, 6, rfl, g3.dr, by decide, fun plain H4 g4 a4 b4 => ?_⟩
  have g14 := (g1.trans g2l).trans (g3.trans g4)
  refine ⟨Nat.zero_le _, fun p hp => ?_⟩
  have hpd := new_ne g4.dr hp
  have hp0 := g14.free hp
  obtain ⟨H5, e5, s5, k5⟩ := newH hp (.lst [])
  rw [e5]
  have g15 := g14.trans (.same g4.dr s5)
  have e05 := g15.tp hD _ _ e0
  refine ⟨_, rfl, b0, _, rfl, .inr (sqt e05), _, rfl, by omega, by omega, ?_⟩
  refine for_range (lo := 0) (n := ((xs.length : Nat) : Int).toNat) (fun (j : Nat) (σ : L2.St) (H' : Hp) => ∃ (G : List Int) (y7 y8 : Option V), σ = [some (.ref d), some (.ref b0), some (.int u1), some (.int stp), some (.int rare), some (.int plain), some (.ref p), y7, y8] ∧ Go d H H' ∧ H' p = some (.lst (G.map V.int)) ∧ G.length = j ∧ ∀ (k : Nat) (g : Int) (os : Pos'), G[k]? = some g → A0[k]? = some os → g = -1 ∨ (0 ≤ g ∧ g < os.length)) ?_ ?_ ?_
  · exact ⟨[], none, none, rfl, g15, k5, rfl, fun k g os h => by simp at h⟩
  · rintro j σ H6 hj ⟨G, y7, y8, rfl, g6, e6, hGl, hG⟩
    have hjA : j < A0.length := by omega
    have hos := List.getElem?_eq_getElem hjA
    generalize A0[j] = os at hos
    have e06 := g6.tp hD _ _ e0
    obtain ⟨os', x, hos', hat, b1, ys, rfl, e1', hys⟩ := hxs.atI (i := 0 + (j : Int)) (by omega) (by omega)
    have : os' = os := by
      rw [show (0 + (j : Int)).toNat = j by omega, hos] at hos'
      exact (Option.some.inj hos').symm
    subst this
    have e16 := g6.tp hD _ _ e1'
    have hyl := hys.1
    generalize hk : (0 : Int) + (j : Int) = k at hat ⊢
    have hk0 : 0 ≤ k ∧ k < 400 := by omega
    refine ⟨_, rfl, _, rfl, _, rfl, _, _, rfl, rfl, .inl ⟨by omega, by omega⟩, _, _, rfl, rfl, _, rfl, _, rfl, _, _, rfl, rfl, .inl ⟨by omega, by omega⟩, _, _, rfl, rfl, .inl ⟨_, rfl, _, _, rfl, rfl, (by show (0 : Int) < 997; decide), ?_⟩⟩
    dsimp only
    generalize hnu : (u1 + stp * k + k * k) % 997 = nu
    have nu0 : 0 ≤ nu := by rw [← hnu]; exact Int.emod_nonneg _ (by omega)
    let I : L2.St → Hp → Prop := fun σ H' => ∃ z : Int, σ = [some (.ref d), some (.ref b0), some (.int u1), some (.int stp), some (.int rare), some (.int plain), some (.ref p), some (.int k), some (.int z)] ∧ H' = H6 ∧ 0 ≤ z
    refine ⟨I, ?_, ?_⟩
    · refine ⟨_, rfl, rfl, _, rfl, ?_⟩
      exact ite2 (fun z => ⟨0, rfl, rfl, Int.le_refl 0⟩) (fun z => ⟨nu, rfl, rfl, nu0⟩)
    rintro σ H7 ⟨z, rfl, rfl, hz0⟩
    have add : ∀ c : Int, (c = -1 ∨ (0 ≤ c ∧ c < os'.length)) → ∃ (G' : List Int) (y7 y8 : Option V), [some (V.ref d), some (.ref b0), some (.int u1), some (.int stp), some (.int rare), some (.int plain), some (.ref p), some (.int k), some (.int z)] = [some (.ref d), some (.ref b0), some (.int u1), some (.int stp), some (.int rare), some (.int plain), some (.ref p), y7, y8] ∧ Go d H (upd H7 p (.lst (G.map V.int ++ [V.int c]))) ∧ (upd H7 p (.lst (G.map V.int ++ [V.int c]))) p = some (.lst (G'.map V.int)) ∧ G'.length = j + 1 ∧ ∀ (k : Nat) (g : Int) (os : Pos'), G'[k]? = some g → A0[k]? = some os → g = -1 ∨ (0 ≤ g ∧ g < os.length) := fun c hc => by
      refine ⟨G ++ [c], _, _, rfl, g6.put2 hp0 hpd, by rw [upd_same, ints_snoc2], by rw [List.length_append, hGl]; rfl, fun k g os h1 h2 => ?_⟩
      rcases Nat.lt_or_ge k j with hl | hl
      · rw [List.getElem?_append_left (by omega)] at h1
        exact hG k g os h1 h2
      · have hkj : k = j := by
          have := (List.getElem?_eq_some_iff.mp h1).1
          rw [List.length_append, hGl] at this
          have h3 : ([c] : List Int).length = 1 := rfl
          omega
        subst hkj
        rw [List.getElem?_append_right (by omega), hGl, Nat.sub_self] at h1
        have h4 : c = g := by simpa using h1
        rw [hos] at h2
        cases h2
        rw [← h4]
        exact hc
    have glen : (G.map V.int).length ≤ 1000000 := by rw [List.length_map]; omega
    have neg : ∃ (G' : List Int) (y7 y8 : Option V), [some (V.ref d), some (.ref b0), some (.int u1), some (.int stp), some (.int rare), some (.int plain), some (.ref p), some (.int k), some (.int z)] = [some (.ref d), some (.ref b0), some (.int u1), some (.int stp), some (.int rare), some (.int plain), some (.ref p), y7, y8] ∧ Go d H (upd H7 p (.lst (G.map V.int ++ [V.int (-1)]))) ∧ (upd H7 p (.lst (G.map V.int ++ [V.int (-1)]))) p = some (.lst (G'.map V.int)) ∧ G'.length = j + 1 ∧ ∀ (k : Nat) (g : Int) (os : Pos'), G'[k]? = some g → A0[k]? = some os → g = -1 ∨ (0 ≤ g ∧ g < os.length) := add (-1) (.inl rfl)
    refine ⟨_, rfl, _, rfl, b0, _, _, _, rfl, rfl, sqt e06, hat, b1, _, rfl, .inr (sqt e16), rfl, _, rfl, ?_⟩
    refine ite2 (fun z1 => ⟨_, rfl, .inl ⟨rfl, _, sqd e6⟩, _, rfl, p, _, _, rfl, rfl, e6, big' glen, neg⟩) (fun z1 => ?_)
    have hne := int_ne z1
    refine ⟨_, rfl, .inl ⟨_, rfl, _, rfl, _, _, rfl, rfl, hr3, rfl, _, rfl, ?_⟩⟩
    refine ite2 (fun z2 => ⟨_, rfl, .inl ⟨rfl, _, sqd e6⟩, _, rfl, p, _, _, rfl, rfl, e6, big' glen, neg⟩) (fun z2 => ?_)
    have hyp : (0 : Int) < (ys.length : Int) := by omega
    have cdiv3 : CDiv z 3 := by
      unfold CDiv
      first | decide | exact ⟨by decide, by decide⟩ | omega
    refine ⟨_, rfl, .inl ⟨rfl, _, sqd e6⟩, _, rfl, _, _, rfl, rfl, cdiv3, _, rfl, _, rfl, b0, _, _, _, rfl, rfl, sqt e06, hat, b1, _, rfl, .inr (sqt e16), _, _, rfl, rfl, hyp, p, _, _, rfl, rfl, e6, big' glen, ?_⟩
    exact add _ (.inr ⟨Int.emod_nonneg _ (by omega), by have := Int.emod_lt_of_pos (z / 3) hyp; omega⟩)
  · rintro σ H6 ⟨G, y7, y8, rfl, g6, e6, hGl, hG⟩
    refine ⟨_, rfl, p, _, rfl, .inl ⟨sqd e6, fun t ht => ?_⟩⟩
    exact q t G _ (g6.trans (Go.new g6.dr ht)) upd_same ⟨by omega, hG⟩
/-! ### _law_is_lost -/
def spLost : Sp := fun vs H Q _ => ∃ (A : Ar) (kp g : Addr) (Kp G : List Int) (at_ : Int), vs = [.ref kp, .ref g, .int at_] ∧ ArG A ∧ H kp = some (.tup (Kp.map V.int)) ∧ H g = some (.tup (G.map V.int)) ∧ StG A G ∧ -1 ≤ at_ ∧ at_ < A.length ∧ Q (.bl (lostB A G Kp at_)) H
end
end NL

set_option maxHeartbeats 4000000
namespace NL
open PySem PySem.Spec PyProof.Rows L2
theorem pi_tupK {X : Cx} {K : PySem.W.Frag} {tg l : Expr} {tl : TE} (h : X.K = K) (e : PE X l tl) : PI X tg l (iTup K tl) := by
  subst h
  exact pi_tup e
/-! ### rows from one of several starts -/
/-- a way by f -/
inductive Chn (f : Int → List Int) : Int → List Int → Int → Prop
  | nil {s : Int} : Chn f s [] s
  | cons {s a t : Int} {r : List Int} : a ∈ f s → Chn f a r t → Chn f s (a :: r) t
theorem Chn.snoc {f : Int → List Int} : ∀ {s p a : Int} {r : List Int}, Chn f s r p → a ∈ f p → Chn f s (r ++ [a]) a
  | _, _, _, _, .nil, h => .cons h .nil
  | _, _, _, _, .cons h c, g => .cons h (c.snoc g)
theorem Chn.mono {f g : Int → List Int} (h : ∀ p a, a ∈ f p → a ∈ g p) : ∀ {s t : Int} {r : List Int}, Chn f s r t → Chn g s r t
  | _, _, _, .nil => .nil
  | _, _, _, .cons m c => .cons (h _ _ m) (c.mono h)
theorem Chn.last {f : Int → List Int} : ∀ {s t : Int} {r : List Int}, Chn f s r t → r ≠ [] → t ∈ r
  | _, _, _, .nil, h => absurd rfl h
  | _, _, _, .cons (r := []) m c, _ => by
    cases c
    exact List.mem_singleton.mpr rfl
  | _, _, _, .cons (r := b :: r) m c, _ => List.mem_cons_of_mem _ (c.last (by simp))
theorem Chn.all {f : Int → List Int} {P : Int → Prop} (h : ∀ p a, a ∈ f p → P a) : ∀ {s t : Int} {r : List Int}, Chn f s r t → ∀ x ∈ r, P x
  | _, _, _, .nil, x, hx => nomatch hx
  | _, _, _, .cons m c, x, hx => by
    rcases List.mem_cons.mp hx with rfl | hx
    · exact h _ _ m
    · exact c.all h x hx
def PthE (f : Int → List Int) (S : List Int) (e : Ent) : Prop := ∃ s r, e.2 = s :: r ∧ s ∈ S ∧ Chn f s r e.1
def LvR (f : Int → List Int) (S : List Int) (B N : List Ent) : Prop := ∃ P, B = P ++ N ∧ (∀ e ∈ B, PthE f S e) ∧ (∀ s ∈ S, s ∈ keysE B) ∧ ∀ p ∈ keysE P, ∀ a ∈ f p, a ∈ keysE B
def RchR (f : Int → List Int) (S : List Int) (R : List Ent) : Prop := (∀ e ∈ R, PthE f S e) ∧ (∀ s ∈ S, s ∈ keysE R) ∧ ∀ p ∈ keysE R, ∀ a ∈ f p, a ∈ keysE R
theorem LvR.done {f : Int → List Int} {S : List Int} {B : List Ent} (h : LvR f S B []) : RchR f S B := by
  obtain ⟨P, h1, h2, h3, h4⟩ := h
  rw [List.append_nil] at h1
  subst h1
  exact ⟨h2, h3, h4⟩
theorem step_pth {f : Int → List Int} {S : List Int} {R : List Ent} {e : Ent} (h : ∀ q ∈ R, PthE f S q) (he : PthE f S e) : ∀ q ∈ stepE f R e, PthE f S q := by
  unfold stepE
  have go : ∀ (l : List Int) (R : List Ent), (∀ a ∈ l, a ∈ f e.1) → (∀ q ∈ R, PthE f S q) → ∀ q ∈ l.foldl (fun R a => insE R (a, e.2 ++ [a])) R, PthE f S q := by
    intro l
    induction l with
    | nil => exact fun R _ h => h
    | cons b r ih =>
      intro R hl hR
      rw [List.foldl_cons]
      refine ih _ (fun a ha => hl a (List.mem_cons_of_mem _ ha)) fun q hq => ?_
      rcases ins_at (R := R) (e := (b, e.2 ++ [b])) with z | z
      · rw [z] at hq
        exact hR q hq
      · rw [z] at hq
        rcases List.mem_append.mp hq with hq | hq
        · exact hR q hq
        · rw [List.mem_singleton.mp hq]
          obtain ⟨s, r, h1, h2, h3⟩ := he
          exact ⟨s, r ++ [b], by show e.2 ++ [b] = _; rw [h1]; rfl, h2, h3.snoc (hl b List.mem_cons_self)⟩
  exact go (f e.1) R (fun a h => h) h
theorem steps_lv {f : Int → List Int} {S : List Int} : ∀ (N R : List Ent), (∀ q ∈ R, PthE f S q) → (∀ e ∈ N, PthE f S e) → (∀ q ∈ N.foldl (stepE f) R, PthE f S q) ∧ ∀ p ∈ keysE N, ∀ a ∈ f p, a ∈ keysE (N.foldl (stepE f) R)
  | [], R, h, _ => ⟨h, fun p hp => nomatch hp⟩
  | e :: r, R, h, g => by
    rw [List.foldl_cons]
    obtain ⟨h1, h2⟩ := steps_lv r (stepE f R e) (step_pth h (g e List.mem_cons_self)) fun q hq => g q (List.mem_cons_of_mem _ hq)
    refine ⟨h1, fun p hp a ha => ?_⟩
    rcases List.mem_cons.mp (show p ∈ e.1 :: keysE r from hp) with rfl | hp
    · obtain ⟨M, hM⟩ := fold_ext (stepE f) (step_ext f) r (stepE f R e)
      rw [hM, keysE_app]
      exact List.mem_append_left _ (step_has f R e a ha)
    · exact h2 p hp a ha
theorem LvR.next {f : Int → List Int} {S : List Int} {B N N' : List Ent} (h : LvR f S B N) (e : N.foldl (stepE f) B = B ++ N') : LvR f S (B ++ N') N' := by
  obtain ⟨P, h1, h2, h3, h4⟩ := h
  obtain ⟨g1, g2⟩ := steps_lv N B h2 fun q hq => h2 q (by rw [h1]; exact List.mem_append_right _ hq)
  rw [e] at g1 g2
  refine ⟨B, rfl, g1, fun s hs => by rw [keysE_app]; exact List.mem_append_left _ (h3 s hs), fun p hp a ha => ?_⟩
  rw [h1, keysE_app] at hp
  rcases List.mem_append.mp hp with hp | hp
  · rw [keysE_app]
    exact List.mem_append_left _ (h4 p hp a ha)
  · exact g2 p hp a ha
def stE (S : List Int) : List Ent := S.map fun s => (s, [s])
theorem keys_st (S : List Int) : keysE (stE S) = S := by
  unfold keysE stE
  rw [List.map_map]
  exact List.map_id' S
theorem LvR.start (f : Int → List Int) (S : List Int) : LvR f S (stE S) (stE S) :=
  ⟨[], rfl, fun e he => by
    obtain ⟨s, hs, rfl⟩ := List.mem_map.mp he
    exact ⟨s, [], rfl, hs, .nil⟩, fun s hs => by rw [keys_st]; exact hs, fun p hp => nomatch hp⟩
theorem GoodR.start {n : Int} {S : List Int} (hd : S.Nodup) (hS : ∀ s ∈ S, -1 ≤ s ∧ s < n) : GoodR n (stE S) :=
  ⟨by rw [keys_st]; exact hd, fun e he => by
    obtain ⟨s, hs, rfl⟩ := List.mem_map.mp he
    exact hS s hs, fun e he => by
    have : 0 < (stE S).length := List.length_pos_of_mem he
    obtain ⟨s, hs, rfl⟩ := List.mem_map.mp he
    exact this⟩
section
variable {P : Program} {w : World} {K : PySem.W.Frag} {mg : Str → Option Value} {base : Heap}
/-! ### _least_rows, several starts -/
def spLeastS : Sp := fun vs H Q _ => ∃ (a b : Addr) (f : Int → List Int) (n : Int) (S : List Int), vs = [.ref a, .ref b] ∧ SucA H a f n ∧ SucG f n ∧ 0 ≤ n ∧ H b = some (.tup (S.map V.int)) ∧ S.Nodup ∧ (∀ s ∈ S, -1 ≤ s ∧ s < n) ∧
  ∀ (D : Addr) (kvs : List (Key × V)) (R : List Ent) (H' : Hp), Same H H' → H D = none → H' D = some (.dK kvs) → RowsAt H' R kvs → GoodR n R → RchR f S R → Q (.ref D) H'
theorem gx_least_rows (T : Txt K mg) : FnOk P w K mg base CX0 1 T.a_least_rows T.d_least_rows P_least_rows spLeastS := by
  refine T.F_least_rows.ok sc_least_rows (fun vs H Q E h => ?_) (fun cdv A outer s H vs Q E hr h => ?_)
  · obtain ⟨a, b, f, n, S, rfl, _⟩ := h
    rfl
  obtain ⟨a, b, f, n, S, rfl, ⟨xs, ea, hxs⟩, hf, hn0, eb, hSd, hSi, q⟩ := h
  refine ⟨_, (pss_cons (ps_setDc (i := 2) (own := [("start", 3)]) (g := (gName 3)) (tt := tYes) rfl sc_least_rows.nd rfl rfl (sw_trueD rfl rfl rfl (by decide +kernel)) (pi_tup (pv 1)) (blkOk_by (N := N_least_rows) (sc := defScope s_least_rows) (by decide +kernel)) (fun _ _ _ _ _ => (pg_name (i := 3) sc_least_rows.nd rfl (Or.inl rfl))) (fun _ _ _ _ _ => pts_nil) (fun _ _ _ _ _ => (pv 3)) (fun _ _ _ _ _ => (pe_tup (pa_cons (pv 3) pa_nil))))
    (pss_cons (ps_set (i := 4) sc_least_rows.nd rfl (Or.inl rfl) (pe_callTy call_list_of (by rfl) T.z_list (by decide +kernel) (pa_cons (pv 1) pa_nil)))
    (pss_cons (ps_while PassesOwn.never (pt_truth (pv 4) (fun _ => rfl))
    (pss_cons (ps_set (i := 5) sc_least_rows.nd rfl (Or.inl rfl) (pe_lst pa_nil))
    (pss_cons (ps_for  PassesOwn.never rfl (pi_list (pv 4)) (pg_name (i := 6) sc_least_rows.nd rfl (Or.inl rfl))
    (pss_one (ps_for  PassesOwn.never rfl (pi_tup (pe_ix ix_list (pv 0) (pv 6) (fun _ _ => rfl))) (pg_name (i := 7) sc_least_rows.nd rfl (Or.inl rfl))
    (pss_one (ps_if (pt_cmp (pc_dnotin (hu_of hr) (pv 7) (pv 2)))
    (pss_cons (ps_dput (hu_of hr) (pv 2) (pv 7) (pe_op op_catA (pe_dget (hu_of hr) (pv 2) (pv 6) (fun _ _ => rfl)) (pe_tup (pa_cons (pv 7) pa_nil))) rfl)
    (pss_one (ps_expr (pe_bm PySem.F.plainAttrs_list PySem.F.slot_list_append PySem.F.type_list_append mt_append (pv 5) (pa_cons (pv 7) pa_nil)))))
    pss_nil)))))
    (pss_one (ps_set (i := 4) sc_least_rows.nd rfl (Or.inl rfl) (pv 5))))))
    (pss_one (ps_ret (pv 2)))))), ?_⟩
  refine ⟨_, rfl, b, rfl, ⟨_, sqt eb⟩, fun D hD => ?_⟩
  refine dc_tup (K := K) (a := b) (xs := S.map V.int) (fun (j : Nat) (H' : Hp) => Same H H' ∧ ∃ kvs, H' D = some (.dK kvs) ∧ RowsAt H' (stE (S.take j)) kvs) ?_ ?_ ?_ ?_
  · exact ⟨same_new hD _, [], upd_same, .nil⟩
  · rintro i H' _ ⟨s1, _⟩
    exact sqt (s1 _ _ eb)
  · rintro i x H1 hx ⟨s1, kvs, e1, hR⟩
    rw [List.getElem?_map] at hx
    obtain ⟨st, hst, rfl⟩ := Option.map_eq_some_iff.mp hx
    refine ⟨rfl, yes_if ⟨_, rfl, _, rfl, Nat.le_of_ble_eq_true rfl, fun t ht => ?_⟩⟩
    obtain ⟨H2, e2, s2, k2⟩ := newH ht (.tup [V.int st])
    rw [e2]
    have hno : st ∉ keysE (stE (S.take i)) := by
      rw [keys_st]
      intro hm
      obtain ⟨m, hm2⟩ := List.getElem?_of_mem hm
      have hml := (List.getElem?_eq_some_iff.mp hm2).1
      rw [List.length_take] at hml
      rw [List.getElem?_take, if_pos (by omega)] at hm2
      obtain ⟨l1, v1⟩ := List.getElem?_eq_some_iff.mp hm2
      obtain ⟨l2, v2⟩ := List.getElem?_eq_some_iff.mp hst
      exact (List.pairwise_iff_getElem.mp hSd) m i l1 l2 (by omega) (v1.trans v2.symm)
    have h46 : S.length ≤ 401 := by
      have := nd_len (-1) (n.toNat + 1) S hSd fun x hx => by have := hSi x hx; omega
      have := hf.few
      omega
    have hlk := hR.len
    have hl2 : (stE (S.take i)).length ≤ 401 := by
      unfold stE
      rw [List.length_map, List.length_take]
      omega
    refine ⟨kvs, Sum.inl st, rfl, s2 _ _ e1, big' (by omega), same_put (s1.trans s2) hD, _, upd_same, ?_⟩
    generalize hkk : putK kvs (Sum.inl st : Key) (V.ref t) = kvs2
    have t3 : Tp H2 (upd H2 D (.dK kvs2)) := fun a xs e => by
      have ne : a ≠ D := fun z => by
        rw [z, s2 _ _ e1] at e
        cases e
      rw [upd_ne ne]
      exact e
    have r3 := ((hR.tp (SameTp s2)).tp t3).put (p := st) (row := [st]) (v := .ref t) hno ⟨t, rfl, t3 _ _ k2⟩
    rw [hkk, show insE (stE (S.take i)) (st, [st]) = stE (S.take i) ++ [(st, [st])] by unfold insE; rw [if_neg hno]] at r3
    have : stE (S.take (i + 1)) = stE (S.take i) ++ [(st, [st])] := by
      unfold stE
      rw [List.take_add_one, hst, List.map_append]
      rfl
    rw [this]
    exact r3
  rintro H1 ⟨s1, kvs1, e1, hR1⟩
  rw [List.length_map, List.take_length] at hR1
  have hDne : ∀ {x : Addr} {u : HO}, H x = some u → x ≠ D := fun h z => by
    rw [z, hD] at h
    cases h
  refine ⟨_, rfl, b, _, rfl, .inr (sqt (s1 _ _ eb)), fun wl hwl => ?_⟩
  obtain ⟨H2, e2, s2, k2⟩ := newH hwl (.lst (S.map V.int))
  rw [e2]
  have g1 : GoodR n (stE S) := .start hSd hSi
  -- level by level
  refine ⟨fun m σ H' => ∃ (B N : List Ent) (kvs : List (Key × V)) (wl : Addr) (y3 y5 y6 y7 : Option V), σ = [some (.ref a), some (.ref b), some (.ref D), y3, some (.ref wl), y5, y6, y7] ∧ Same H H' ∧ H' D = some (.dK kvs) ∧ RowsAt H' B kvs ∧ GoodR n B ∧
    H wl = none ∧ H' wl = some (.lst ((keysE N).map V.int)) ∧ LvR f S B N ∧ m = (n.toNat + 1 - B.length) + (if N = [] then 0 else 1), ⟨_, stE S, stE S, kvs1, wl, _, _, _, _, rfl, s1.trans s2, s2 _ _ e1, hR1.tp (SameTp s2), g1, s1.free hwl, by rw [keys_st]; exact k2, .start f S, rfl⟩, ?_⟩
  rintro m σ H3 ⟨B, N, kvs, wl, y3, y5, y6, y7, rfl, s3, e3, hR3, g3, hwl0, kw, hN, hm⟩
  refine ⟨_, rfl, !((keysE N).map V.int).isEmpty, .inl ⟨_, sqd kw, rfl⟩, ?_⟩
  by_cases hNe : N = []
  · subst hNe
    refine ifF rfl ?_
    exact ⟨_, rfl, q D kvs _ H3 s3 hD e3 hR3 g3 hN.done⟩
  refine ifT (by
    cases N with
    | nil => exact absurd rfl hNe
    | cons a r => rfl) ?_
  refine ⟨fun σ H' => ∃ (N' : List Ent) (kvs : List (Key × V)) (wl : Addr) (y3 y5 y6 y7 : Option V), σ = [some (.ref a), some (.ref b), some (.ref D), y3, some (.ref wl), y5, y6, y7] ∧ Same H H' ∧ H' D = some (.dK kvs) ∧ RowsAt H' (B ++ N') kvs ∧ GoodR n (B ++ N') ∧
    H wl = none ∧ H' wl = some (.lst ((keysE N').map V.int)) ∧ N.foldl (stepE f) B = B ++ N', ?_, ?_⟩
  · rintro σ' H' ⟨N', kvs', wl', z3, z5, z6, z7, rfl, t3, f3, hR', gR', hw', kw', hN'⟩
    refine ⟨_, ?_, B ++ N', N', kvs', wl', z3, z5, z6, z7, rfl, t3, f3, hR', gR', hw', kw', hN.next hN', rfl⟩
    have f1 := g3.few hn0
    have f2 := gR'.few hn0
    rw [hm, if_neg hNe]
    cases N' with
    | nil =>
      rw [List.append_nil, if_pos rfl]
      omega
    | cons c r =>
      rw [if_neg (by simp)]
      rw [List.length_append, List.length_cons] at f2 ⊢
      omega
  -- a level
  refine ⟨Nat.zero_le _, fun fl hfl => ?_⟩
  obtain ⟨H4, e4, s4, k4⟩ := newH hfl (.lst [])
  rw [e4]
  have hwD : wl ≠ D := fun z => by
    rw [z, e3] at kw
    cases kw
  have hflD : fl ≠ D := fun z => by
    rw [z, e3] at hfl
    cases hfl
  have hflw : fl ≠ wl := fun z => by
    rw [z, kw] at hfl
    cases hfl
  have hDH : H D = none := hD
  have hfH : H fl = none := s3.free hfl
  have L4 : Lv H H4 D wl fl n B B kvs (keysE N) [] := ⟨s3.trans s4, s4 _ _ e3, s4 _ _ kw, k4, hR3.tp (SameTp s4), g3, [], (List.append_nil _).symm, rfl⟩
  refine ⟨_, rfl, wl, rfl, ⟨_, sqd L4.w⟩, ?_⟩
  refine for_list (K := K) (a := wl) (xs := (keysE N).map V.int) (fun (i : Nat) (σ : L2.St) (H' : Hp) => ∃ (R : List Ent) (kvs : List (Key × V)) (F : List Int) (y6 y7 : Option V), σ = [some (.ref a), some (.ref b), some (.ref D), y3, some (.ref wl), some (.ref fl), y6, y7] ∧ R = (N.take i).foldl (stepE f) B ∧ Lv H H' D wl fl n B R kvs (keysE N) F) ?_ ?_ ?_ ?_
  · exact ⟨B, kvs, [], y6, y7, rfl, rfl, L4⟩
  · rintro i σ H' _ ⟨R, kvs', F, y6', y7', rfl, _, hL⟩
    exact sqd hL.w
  · rintro i x σ H5 hx ⟨R, kvs', F, y6', y7', rfl, hRe, hL⟩
    rw [show keysE N = N.map (·.1) from rfl, List.map_map, List.getElem?_map] at hx
    obtain ⟨e, he, rfl⟩ := Option.map_eq_some_iff.mp hx
    have heN := List.mem_of_getElem? he
    have heB : e ∈ B := by
      obtain ⟨P0, hP0, _⟩ := hN
      rw [hP0]
      exact List.mem_append_right _ heN
    have heR : e ∈ R := by
      obtain ⟨M, hM, _⟩ := hL.k
      rw [hM]
      exact List.mem_append_left _ heB
    have hin := hL.g.inn e heR
    obtain ⟨x, hat, t, rfl, et⟩ := hxs e.1 hin.1 hin.2
    have kt := hL.s _ _ et
    refine ⟨_, rfl, _, rfl, a, xs, e.1, _, rfl, rfl, sqd (hL.s _ _ ea), hat, t, rfl, ⟨_, sqt kt⟩, ?_⟩
    refine for_tup (K := K) (a := t) (xs := (f e.1).map V.int) (fun (j : Nat) (σ : L2.St) (H' : Hp) => ∃ (R' : List Ent) (kvs : List (Key × V)) (F : List Int) (y7 : Option V), σ = [some (.ref a), some (.ref b), some (.ref D), y3, some (.ref wl), some (.ref fl), some (.int e.1), y7] ∧ R' = ((f e.1).take j).foldl (fun R a => insE R (a, e.2 ++ [a])) R ∧ e ∈ R' ∧ Lv H H' D wl fl n B R' kvs (keysE N) F) ?_ ?_ ?_ ?_
    · exact ⟨R, kvs', F, _, rfl, rfl, heR, hL⟩
    · rintro j σ H' _ ⟨R', kvs, F, y7, rfl, _, _, hL'⟩
      exact sqt (hL'.s _ _ et)
    · rintro j x σ H6 hx6 ⟨R', kvs6, F6, y7, rfl, hR6, heR6, hL6⟩
      rw [List.getElem?_map] at hx6
      obtain ⟨c, hc, rfl⟩ := Option.map_eq_some_iff.mp hx6
      have hcm := hf.mem _ c (List.mem_of_getElem? hc)
      have few := hL6.g.few hn0
      have fn := hf.few
      have hlk := hL6.r.len
      have hnext : ((f e.1).take (j + 1)).foldl (fun R a => insE R (a, e.2 ++ [a])) R = insE R' (c, e.2 ++ [c]) := by
        rw [List.take_add_one, hc, List.foldl_append, ← hR6]
        rfl
      refine ⟨_, rfl, _, rfl, D, _, rfl, DGet.k (k := Sum.inl c) hL6.d, _, rfl, ?_⟩
      by_cases hm : c ∈ keysE R'
      · obtain ⟨e2, he2, hc2⟩ := List.mem_map.mp hm
        obtain ⟨v, hv, _⟩ := hL6.r.yes hL6.g.nd e2 he2
        have hc3 : e2.1 = c := hc2
        rw [hc3] at hv
        refine ifF (by rw [hv] <;> rfl) ?_
        refine ⟨R', kvs6, F6, _, rfl, ?_, heR6, hL6⟩
        rw [hnext]
        unfold insE
        rw [if_pos hm]
      · refine ifT (by rw [hL6.r.no hm] <;> rfl) ?_
        obtain ⟨v, hv, tv, rfl, ev⟩ := hL6.r.yes hL6.g.nd e heR6
        refine ⟨_, rfl, _, rfl, D, _, rfl, (hv ▸ DGet.k (k := Sum.inl e.1) hL6.d), ?_⟩
        refine ⟨_, rfl, Nat.le_of_ble_eq_true rfl, fun tc htc => ?_⟩
        obtain ⟨H7, e7, s7, k7⟩ := newH htc (.tup [V.int c])
        rw [e7]
        have hel := hL6.g.len e heR6
        refine catA_of (s7 _ _ ev) k7 (by rw [List.length_map, List.length_singleton]; omega) fun p8 H8 s8 k8 => ?_
        have s78 := s7.trans s8
        have d8 := s78 _ _ hL6.d
        refine ⟨_, rfl, _, rfl, D, _, rfl, DPut.k (k := Sum.inl c) d8 (big' (by omega)), ?_⟩
        have oc : OptIn H8 (e.2 ++ [c]) (.ref p8) := ⟨p8, rfl, by rw [k8, ints_snoc2]⟩
        have r9 := (hL6.r.tp (SameTp s78)).put hm oc
        have g9 := hL6.g.ins (p := c) (row := e.2) hcm hel
        generalize hkk : putK kvs6 (Sum.inl c : Key) (V.ref p8) = kvs9 at r9 ⊢
        have t9 : Tp H8 (upd H8 D (.dK kvs9)) := fun a xs e => by
          have ne : a ≠ D := fun z => by
            rw [z, d8] at e
            cases e
          rw [upd_ne ne]
          exact e
        have f8 := s78 _ _ hL6.f
        have w8 := s78 _ _ hL6.w
        have s9 : Same H (upd H8 D (.dK kvs9)) := same_put (hL6.s.trans s78) hDH
        refine ⟨_, rfl, .inl ⟨rfl, _, sqd (by rw [upd_ne hflD]; exact f8)⟩, _, rfl, fl, _, _, rfl, rfl, by rw [upd_ne hflD]; exact f8, big' ?_, ?_⟩
        · obtain ⟨M, hM, hF⟩ := hL6.k
          rw [List.length_map, hF, show (keysE M).length = M.length from List.length_map ..]
          rw [hM, List.length_append] at few
          omega
        have e10 : upd (upd H8 D (.dK kvs9)) fl (.lst (F6.map V.int ++ [V.int c])) fl = some (.lst ((F6 ++ [c]).map V.int)) := by rw [upd_same, ints_snoc2]
        have t10 : Tp (upd H8 D (.dK kvs9)) (upd (upd H8 D (.dK kvs9)) fl (.lst (F6.map V.int ++ [V.int c]))) := fun a xs e => by
          have ne : a ≠ fl := fun z => by
            rw [z, upd_ne hflD, f8] at e
            cases e
          rw [upd_ne ne]
          exact e
        refine ⟨insE R' (c, e.2 ++ [c]), kvs9, F6 ++ [c], _, rfl, hnext.symm, ?_, ?_⟩
        · obtain ⟨M, hM, _⟩ := ins_ext R' (c, e.2 ++ [c])
          rw [hM]
          exact List.mem_append_left _ heR6
        · refine ⟨same_put s9 hfH, by rw [upd_ne hflD.symm, upd_same], by rw [upd_ne hflw.symm, upd_ne hwD]; exact w8, e10, (r9.tp t9).tp t10, g9, ?_⟩
          obtain ⟨M, hM, hF⟩ := hL6.k
          refine ⟨M ++ [(c, e.2 ++ [c])], ?_, by rw [keysE_app, hF]; rfl⟩
          rw [show insE R' (c, e.2 ++ [c]) = R' ++ [(c, e.2 ++ [c])] by unfold insE; rw [if_neg hm], hM, List.append_assoc]
    · rintro σ H6 ⟨R', kvs6, F6, y7, rfl, hR6, heR6, hL6⟩
      rw [List.length_map, List.take_length] at hR6
      refine ⟨R', kvs6, F6, _, _, rfl, ?_, hL6⟩
      rw [List.take_add_one, he, List.foldl_append, ← hRe, hR6]
      rfl
  · rintro σ H5 ⟨R, kvs', F, y6', y7', rfl, hRe, hL⟩
    rw [show ((keysE N).map V.int).length = N.length by rw [List.length_map]; exact List.length_map .., List.take_length] at hRe
    obtain ⟨N', h1, h2⟩ := hL.k
    rw [h1] at hRe
    refine ⟨_, rfl, N', kvs', fl, y3, _, y6', y7', rfl, hL.s, hL.d, by rw [← h1]; exact hL.r, by rw [← h1]; exact hL.g, hfH, by rw [hL.f, h2], hRe.symm⟩
end
end NL

set_option maxHeartbeats 4000000
namespace NL
open PySem PySem.Spec PyProof.Rows L2
/-! ### the greatest of a list -/
def mxL : List Int → Int
  | [] => 0
  | [a] => a
  | a :: b :: r => max a (mxL (b :: r))
theorem mxL_ge : ∀ {l : List Int} {y : Int}, y ∈ l → y ≤ mxL l
  | [a], y, h => by rw [List.mem_singleton.mp h]; exact Int.le_refl _
  | a :: b :: r, y, h => by
    show y ≤ max a (mxL (b :: r))
    rcases List.mem_cons.mp h with rfl | h
    · exact Int.le_max_left _ _
    · exact Int.le_trans (mxL_ge h) (Int.le_max_right _ _)
theorem mxL_mem : ∀ {l : List Int}, l ≠ [] → mxL l ∈ l
  | [a], _ => List.mem_singleton.mpr rfl
  | a :: b :: r, _ => by
    show max a (mxL (b :: r)) ∈ a :: b :: r
    rcases Int.le_total a (mxL (b :: r)) with h | h
    · rw [Int.max_eq_right h]
      exact List.mem_cons_of_mem _ (mxL_mem (by simp))
    · rw [Int.max_eq_left h]
      exact List.mem_cons_self
theorem mxL_eq {l : List Int} {m : Int} (h1 : m ∈ l) (h2 : ∀ y, y ∈ l → y ≤ m) : m = mxL l := by
  have hne : l ≠ [] := fun e => by rw [e] at h1; cases h1
  have a := mxL_ge h1
  have b := h2 _ (mxL_mem hne)
  omega
/-! ### levels of losses -/
structure Net (f : Int → List Int) (M : List Int) (n : Nat) : Prop where
  inn : ∀ p ∈ M, 0 ≤ p ∧ p < (n : Int)
  ne : ∀ p ∈ M, f p ≠ []
  cl : ∀ p ∈ M, ∀ a ∈ f p, a ∈ M
def vl (f : Int → List Int) (g : Int → Int) (v : Int → Int) (p : Int) : Int := mxL ((f p).map v) - g p
def lv (f : Int → List Int) (g : Int → Int) (M : List Int) : Nat → Int → Int
  | 0, _ => 0
  | k + 1, p => if p ∈ M then max 0 (vl f g (lv f g M k) p) else 0
section
variable {f : Int → List Int} {g : Int → Int} {M : List Int} {n : Nat}
theorem lv_in {k : Nat} {p : Int} (h : p ∈ M) : lv f g M (k + 1) p = max 0 (vl f g (lv f g M k) p) := if_pos h
theorem lv_nn : ∀ (k : Nat) (p : Int), 0 ≤ lv f g M k p
  | 0, _ => Int.le_refl 0
  | k + 1, p => by
    show 0 ≤ if p ∈ M then _ else _
    split
    · exact Int.le_max_left _ _
    · exact Int.le_refl 0
theorem lv_out {p : Int} (h : p ∉ M) : ∀ k : Nat, lv f g M k p = 0
  | 0 => rfl
  | k + 1 => if_neg h
theorem vl_ge {v : Int → Int} {p a : Int} (h : a ∈ f p) : v a - g p ≤ vl f g v p := by
  have := mxL_ge (List.mem_map_of_mem (f := v) h)
  unfold vl
  omega
theorem vl_at {v : Int → Int} {p : Int} (h : f p ≠ []) : ∃ a ∈ f p, vl f g v p = v a - g p := by
  have := mxL_mem (l := (f p).map v) (fun e => h (List.map_eq_nil_iff.mp e))
  obtain ⟨a, ha, e⟩ := List.mem_map.mp this
  exact ⟨a, ha, by unfold vl; omega⟩
theorem vl_mono {v u : Int → Int} {p : Int} (hne : f p ≠ []) (h : ∀ a ∈ f p, v a ≤ u a) : vl f g v p ≤ vl f g u p := by
  obtain ⟨a, ha, e⟩ := vl_at (f := f) (g := g) (v := v) hne
  have := vl_ge (f := f) (g := g) (v := u) ha
  have := h a ha
  omega
theorem lv_up (N : Net f M n) : ∀ (k : Nat) (p : Int), lv f g M k p ≤ lv f g M (k + 1) p
  | 0, p => lv_nn 1 p
  | k + 1, p => by
    by_cases h : p ∈ M
    · rw [lv_in h, lv_in h]
      have := vl_mono (g := g) (N.ne p h) (fun a _ => lv_up N k a)
      omega
    · rw [lv_out h, lv_out h]
      exact Int.le_refl 0
theorem lv_le (N : Net f M n) {j k : Nat} (h : j ≤ k) (p : Int) : lv f g M j p ≤ lv f g M k p := by
  obtain ⟨d, rfl⟩ : ∃ d, k = j + d := ⟨k - j, by omega⟩
  clear h
  induction d with
  | zero => exact Int.le_refl _
  | succ d ih => exact Int.le_trans ih (lv_up N _ p)
/-- no step adds anything -/
def Conv (f : Int → List Int) (g : Int → Int) (M : List Int) (k : Nat) : Prop := ∀ p ∈ M, lv f g M (k + 1) p = lv f g M k p
/-- values that are enough -/
def Pre (f : Int → List Int) (g : Int → Int) (M : List Int) (v : Int → Int) : Prop := ∀ p ∈ M, 0 ≤ v p ∧ vl f g v p ≤ v p
theorem Conv.pre {k : Nat} (h : Conv f g M k) : Pre f g M (lv f g M k) := fun p hp => ⟨lv_nn k p, by
  have := h p hp
  rw [lv_in hp] at this
  omega⟩
theorem lv_pre (N : Net f M n) {v : Int → Int} (h : Pre f g M v) : ∀ (k : Nat), ∀ p ∈ M, lv f g M k p ≤ v p
  | 0, p, hp => (h p hp).1
  | k + 1, p, hp => by
    rw [lv_in hp]
    have h1 := h p hp
    have := vl_mono (g := g) (N.ne p hp) (fun a ha => lv_pre N h k a (N.cl p hp a ha))
    omega
/-- where nothing more is added at a position -/
def Stl (f : Int → List Int) (g : Int → Int) (M : List Int) (p : Int) (k : Nat) : Prop := ∀ j, lv f g M j p ≤ lv f g M k p
theorem up_stl {a : Nat → Int} {B : Int} (hb : ∀ j, a j ≤ B) : ∃ k, ∀ j, a j ≤ a k := by
  refine Classical.byContradiction fun hno => ?_
  have step : ∀ k, ∃ j, a k < a j := fun k => Classical.byContradiction fun h => hno ⟨k, fun j => by
    have : ¬ a k < a j := fun hj => h ⟨j, hj⟩
    omega⟩
  have grow : ∀ m : Nat, ∃ k, a 0 + (m : Int) ≤ a k := fun m => by
    induction m with
    | zero => exact ⟨0, by omega⟩
    | succ m ih =>
      obtain ⟨k, hk⟩ := ih
      obtain ⟨j, hj⟩ := step k
      exact ⟨j, by omega⟩
  obtain ⟨k, hk⟩ := grow (B - a 0 + 1).toNat
  have := hb k
  have := hb 0
  omega
theorem first_stl {p : Int} : ∀ {k : Nat}, Stl f g M p k → ∃ r, r ≤ k ∧ Stl f g M p r ∧ ∀ j, j < r → ¬ Stl f g M p j
  | 0, h => ⟨0, Nat.le_refl 0, h, fun j hj => absurd hj (Nat.not_lt_zero j)⟩
  | k + 1, h => by
    by_cases hk : ∃ j, j ≤ k ∧ Stl f g M p j
    · obtain ⟨j, hj, hs⟩ := hk
      have go : ∀ (m : Nat) (j : Nat), j ≤ m → Stl f g M p j → ∃ r, r ≤ j ∧ Stl f g M p r ∧ ∀ i, i < r → ¬ Stl f g M p i := by
        intro m
        induction m with
        | zero =>
          intro j hj hs
          have : j = 0 := by omega
          subst this
          exact ⟨0, Nat.le_refl 0, hs, fun i hi => absurd hi (Nat.not_lt_zero i)⟩
        | succ m ih =>
          intro j hj hs
          by_cases hl : ∃ i, i < j ∧ Stl f g M p i
          · obtain ⟨i, hi, hsi⟩ := hl
            obtain ⟨r, h1, h2, h3⟩ := ih i (by omega) hsi
            exact ⟨r, by omega, h2, h3⟩
          · exact ⟨j, Nat.le_refl j, hs, fun i hi hsi => hl ⟨i, hi, hsi⟩⟩
      obtain ⟨r, h1, h2, h3⟩ := go j j (Nat.le_refl j) hs
      exact ⟨r, by omega, h2, h3⟩
    · exact ⟨k + 1, Nat.le_refl _, h, fun j hj hs => hk ⟨j, by omega, hs⟩⟩
/-- settled first at r -/
def Fst (f : Int → List Int) (g : Int → Int) (M : List Int) (p : Int) (r : Nat) : Prop := Stl f g M p r ∧ ∀ j, j < r → ¬ Stl f g M p j
theorem Fst.uniq {p : Int} {r s : Nat} (h : Fst f g M p r) (k : Fst f g M p s) : r = s := by
  rcases Nat.lt_trichotomy r s with z | z | z
  · exact absurd h.1 (k.2 r z)
  · exact z
  · exact absurd k.1 (h.2 s z)
theorem Fst.down (N : Net f M n) {p : Int} {k : Nat} (hp : p ∈ M) (h : Fst f g M p (k + 1)) : ∃ q ∈ M, Fst f g M q k := by
  obtain ⟨hs, hf⟩ := h
  have hno := hf k (Nat.lt_succ_self k)
  have hlt : lv f g M k p < lv f g M (k + 1) p := by
    refine Classical.byContradiction fun hn => hno fun j => ?_
    have := hs j
    omega
  have h0 := lv_nn (f := f) (g := g) (M := M) k p
  have e1 := lv_in (f := f) (g := g) (M := M) (k := k) hp
  obtain ⟨q, hq, e2⟩ := vl_at (f := f) (g := g) (v := lv f g M k) (N.ne p hp)
  have up : ∀ j, lv f g M j q - g p ≤ lv f g M (j + 1) p := fun j => by
    rw [lv_in hp]
    have := vl_ge (f := f) (g := g) (v := lv f g M j) hq
    omega
  refine ⟨q, N.cl p hp q hq, fun j => ?_, fun j hj hsj => ?_⟩
  · have h1 := up j
    have h2 := hs (j + 1)
    omega
  · refine hf (j + 1) (by omega) fun i => ?_
    have h1 := hs i
    have h2 := up j
    have h3 := hsj k
    omega
theorem Fst.row (N : Net f M n) : ∀ {k : Nat} {p : Int}, p ∈ M → Fst f g M p k → ∃ l : List Int, l.length = k + 1 ∧ l.Nodup ∧ ∀ q ∈ l, q ∈ M ∧ ∃ j, j ≤ k ∧ Fst f g M q j
  | 0, p, hp, h => ⟨[p], rfl, List.nodup_cons.mpr ⟨fun h => (nomatch h), List.nodup_nil⟩, fun q hq => by rw [List.mem_singleton.mp hq]; exact ⟨hp, 0, Nat.le_refl 0, h⟩⟩
  | k + 1, p, hp, h => by
    obtain ⟨q, hq, hf⟩ := h.down N hp
    obtain ⟨l, h1, h2, h3⟩ := Fst.row N hq hf
    refine ⟨p :: l, by rw [List.length_cons, h1], List.nodup_cons.mpr ⟨fun hm => ?_, h2⟩, fun x hx => ?_⟩
    · obtain ⟨_, j, hj, hfj⟩ := h3 p hm
      have := h.uniq hfj
      omega
    · rcases List.mem_cons.mp hx with rfl | hx
      · exact ⟨hp, k + 1, Nat.le_refl _, h⟩
      · obtain ⟨a, j, hj, hfj⟩ := h3 x hx
        exact ⟨a, j, by omega, hfj⟩
/-- where values are enough, as many steps as positions settle all -/
theorem Pre.conv (N : Net f M n) {v : Int → Int} (h : Pre f g M v) {k : Nat} (hk : n ≤ k + 1) : Conv f g M k := by
  intro p hp
  obtain ⟨K, hK⟩ := up_stl (a := fun j => lv f g M j p) (B := v p) fun j => lv_pre N h j p hp
  obtain ⟨r, _, h1, h2⟩ := first_stl (f := f) (g := g) (M := M) (p := p) (k := K) hK
  obtain ⟨l, l1, l2, l3⟩ := Fst.row N hp ⟨h1, h2⟩
  have := nd_len 0 n l l2 fun x hx => by have := N.inn x (l3 x hx).1; omega
  have a := h1 (k + 1)
  have b := lv_le (g := g) N (show r ≤ k by omega) p
  have c := lv_up (g := g) N k p
  omega
theorem Conv.le (N : Net f M n) {k : Nat} (h : Conv f g M k) {j : Nat} : ∀ p ∈ M, lv f g M j p ≤ lv f g M k p := lv_pre N h.pre j
theorem lv_congr {M' : List Int} (h : ∀ p, p ∈ M ↔ p ∈ M') : ∀ (k : Nat), lv f g M k = lv f g M' k
  | 0 => rfl
  | k + 1 => by
    funext p
    show (if p ∈ M then _ else _) = if p ∈ M' then _ else _
    rw [lv_congr h k]
    by_cases hp : p ∈ M
    · rw [if_pos hp, if_pos ((h p).mp hp)]
    · rw [if_neg hp, if_neg fun z => hp ((h p).mpr z)]
end
/-! ### values that are lifted one after another -/
/-- one lift at p -/
def lft (f : Int → List Int) (g : Int → Int) (M : List Int) (v : Int → Int) (p : Int) : Int → Int := fun q => if q = p ∧ p ∈ M ∧ v p < vl f g v p then vl f g v p else v q
section
variable {f : Int → List Int} {g : Int → Int} {M : List Int} {n : Nat}
theorem lft_ge (v : Int → Int) (p q : Int) : v q ≤ lft f g M v p q := by
  unfold lft
  split
  · rename_i h
    rw [h.1]
    omega
  · exact Int.le_refl _
theorem lft_pre (N : Net f M n) {v u : Int → Int} (hu : Pre f g M u) (h : ∀ q ∈ M, v q ≤ u q) (p : Int) : ∀ q ∈ M, lft f g M v p q ≤ u q := by
  intro q hq
  unfold lft
  split
  · rename_i hc
    have h1 := vl_mono (g := g) (N.ne p hc.2.1) (fun a ha => h a (N.cl p hc.2.1 a ha))
    have h2 := hu p hc.2.1
    rw [hc.1]
    omega
  · exact h q hq
theorem lft_in {v : Int → Int} {p : Int} (hp : p ∈ M) : vl f g v p ≤ lft f g M v p p := by
  unfold lft
  by_cases h : v p < vl f g v p
  · rw [if_pos ⟨rfl, hp, h⟩]
    exact Int.le_refl _
  · rw [if_neg fun z => h z.2.2]
    omega
end
end NL

set_option maxHeartbeats 4000000
namespace NL
open PySem PySem.Spec PyProof.Rows L2
/-! ### max and min of a list of ints with a default -/
def rMaxDf (K : PySem.W.Frag) : List V → List V → Hp → VK → Prop := fun vs zs H Q => ∃ (a : Addr) (ns : List Int) (d : Int), vs = [V.ref a] ∧ zs = [V.int d] ∧ SqL K H a (ns.map V.int) ∧ ∀ m, (ns = [] → m = d) → (ns ≠ [] → m ∈ ns ∧ ∀ y, y ∈ ns → y ≤ m) → Q (.int m) H
def rMinDf (K : PySem.W.Frag) : List V → List V → Hp → VK → Prop := fun vs zs H Q => ∃ (a : Addr) (ns : List Int) (d : Int), vs = [V.ref a] ∧ zs = [V.int d] ∧ SqL K H a (ns.map V.int) ∧ ∀ m, (ns = [] → m = d) → (ns ≠ [] → m ∈ ns ∧ ∀ y, y ∈ ns → m ≤ y) → Q (.int m) H
theorem ints_at {ns : List Int} {its : List Value} (rv : L2.Vals (ns.map V.int) its) {i : Nat} {v : Value} (h : its.toArray[i]? = some v) : ∃ n t, ns[i]? = some n ∧ v = .int n t := by
  have hv2 : its[i]? = some v := by simpa using h
  have hil := (List.getElem?_eq_some_iff.mp hv2).1
  have hl := rv.length
  rw [List.length_map] at hl
  have hn := List.getElem?_eq_getElem (show i < ns.length by omega)
  obtain ⟨u, hu1, ru⟩ := rv.get (i := i) (x := V.int ns[i]) (by rw [List.getElem?_map, hn]; rfl)
  rw [hv2] at hu1
  cases hu1
  obtain ⟨t, rfl⟩ := ru
  exact ⟨_, t, hn, rfl⟩
theorem cr_maxDf {X : Cx} (hc : X.calm = true) : CallRK X (.builtin "max") [Str.ofString "default"] (rMaxDf X.K) := by
  intro pins s σ H vs zs us ws Q I r rz h
  obtain ⟨a, ns, d, rfl, rfl, hs, q⟩ := h
  obtain ⟨its, rv, hl, _⟩ := I.list hs
  rw [Vals.ref1 r]
  obtain ⟨w1, rfl, e1⟩ := vals1 rz
  obtain ⟨td, rfl⟩ := e1
  have hitl := rv.length
  rw [List.length_map] at hitl
  refine call_max_walkD (PySem.W.iter_listW (A := X.A.in1) (I.ok.hd hc) hl.isList fun s₂ e W st hfp hw hk => ?_)
  refine ⟨_, _, _, _, _, _, _, s.heap, (fun i j => decide (ns.getD i 0 > ns.getD j 0)), rfl, W, st, hfp, hw, hk, fun hn s' m => ?_, fun hn => ⟨?_, fun v s' hP m => ?_⟩⟩
  · obtain ⟨h', tk, rfl, hk'⟩ := PySem.W.moved_old e rfl m
    have hne : ns = [] := List.length_eq_zero_iff.mp (by rw [List.size_toArray] at hn; omega)
    exact ⟨.int d, H, I.kept hk', ⟨_, rfl⟩, q d (fun _ => rfl) (fun h => absurd hne h)⟩
  · intro i j vi vj s' Q' E' hk' hi hj hQ
    obtain ⟨n1, t1, h1, rfl⟩ := ints_at rv hi
    obtain ⟨n2, t2, h2, rfl⟩ := ints_at rv hj
    refine PySem.SiftDown.gt_int ?_
    have hQ2 : Q' (.bool (decide (ns.getD i 0 > ns.getD j 0))) s' := hQ
    rw [show ns.getD i 0 = n1 by rw [List.getD_eq_getElem?_getD, h1]; rfl, show ns.getD j 0 = n2 by rw [List.getD_eq_getElem?_getD, h2]; rfl] at hQ2
    exact hQ2
  · obtain ⟨h', tk, rfl, hk'⟩ := PySem.W.moved_old e rfl m
    obtain ⟨b1, b2⟩ := argBest_gt (fun i => ns.getD i 0) (its.toArray.size - 1)
    obtain ⟨n, t, h1, rfl⟩ := ints_at rv hP
    refine ⟨.int n, H, I.kept hk', ⟨_, rfl⟩, q n (fun h => by rw [h] at h1; cases h1) fun _ => ⟨List.mem_of_getElem? h1, fun y hy => ?_⟩⟩
    obtain ⟨j, hj⟩ := List.getElem?_of_mem hy
    have hjl := (List.getElem?_eq_some_iff.mp hj).1
    have h3 := b2 j (by rw [List.size_toArray]; omega)
    have h4 : ns.getD (argBest (fun i j => decide (ns.getD i 0 > ns.getD j 0)) (its.toArray.size - 1)) 0 = n := by rw [List.getD_eq_getElem?_getD, h1]; rfl
    have h5 : ns.getD j 0 = y := by rw [List.getD_eq_getElem?_getD, hj]; rfl
    rw [← h5, ← h4]
    exact h3
/-! ### two loops in one -/
theorem loop_list {K : PySem.W.Frag} {a : Addr} {xs : List V} {Qd : Hp → Prop} {H0 : Hp} {G : V → Hp → (Hp → Prop) → Prop} (Pv : Nat → Hp → Prop) (h0 : Pv 0 H0) (hl : ∀ i H, Pv i H → SqL K H a xs)
    (hs : ∀ i x H, xs[i]? = some x → Pv i H → G x H (Pv (i + 1))) (hd : ∀ H, Pv xs.length H → Qd H) :
    ∃ W : Nat → Nat → Hp → Prop, (∃ m, W 0 m H0) ∧ ∀ i m H, W i m H → ((Itl K a).stop i H ∧ Qd H) ∨ ((Itl K a).go i H ∧ ∃ Nx : Hp → Prop, (∀ H', Nx H' → ∃ m', m' < m ∧ W (i + 1) m' H') ∧ ∀ x H', (Itl K a).yld i H x H' → G x H' Nx) := by
  refine ⟨fun i m H => m + i = xs.length ∧ Pv i H, ⟨xs.length, rfl, h0⟩, ?_⟩
  rintro i m H ⟨hi, p⟩
  have q := hl i H p
  by_cases lt : i < xs.length
  · have ex : xs[i]? = some xs[i] := List.getElem?_eq_getElem lt
    refine .inr ⟨⟨xs, _, q, ex⟩, Pv (i + 1), fun H' p' => ⟨m - 1, by omega, by omega, p'⟩, fun x H' y => ?_⟩
    obtain ⟨e, y⟩ := y
    subst e
    exact hs i x _ (y xs q) p
  · have e : i = xs.length := by omega
    subst e
    exact .inl ⟨⟨xs, q, Nat.le_refl _⟩, hd H p⟩
theorem loop_range {lo : Int} {n : Nat} {Qd : Hp → Prop} {H0 : Hp} {G : V → Hp → (Hp → Prop) → Prop} (Pv : Nat → Hp → Prop) (h0 : Pv 0 H0)
    (hs : ∀ (i : Nat) H, i < n → Pv i H → G (.int (lo + (i : Int))) H (Pv (i + 1))) (hd : ∀ H, Pv n H → Qd H) :
    ∃ W : Nat → Nat → Hp → Prop, (∃ m, W 0 m H0) ∧ ∀ i m H, W i m H → ((Itr lo n).stop i H ∧ Qd H) ∨ ((Itr lo n).go i H ∧ ∃ Nx : Hp → Prop, (∀ H', Nx H' → ∃ m', m' < m ∧ W (i + 1) m' H') ∧ ∀ x H', (Itr lo n).yld i H x H' → G x H' Nx) := by
  refine ⟨fun i m H => m + i = n ∧ Pv i H, ⟨n, rfl, h0⟩, ?_⟩
  rintro i m H ⟨hi, p⟩
  by_cases lt : i < n
  · refine .inr ⟨lt, Pv (i + 1), fun H' p' => ⟨m - 1, by omega, by omega, p'⟩, fun x H' y => ?_⟩
    obtain ⟨e, e2⟩ := y
    subst e e2
    exact hs i _ lt p
  · have e : i = n := by omega
    subst e
    exact .inl ⟨Nat.le_refl _, hd H p⟩
theorem pi_listK {X : Cx} {K : PySem.W.Frag} {tg l : Expr} {tl : TE} (h : X.K = K) (e : PE X l tl) : PI X tg l (iList K tl) := by
  subst h
  exact pi_list e
end NL

set_option maxHeartbeats 4000000
namespace NL
open PySem PySem.Spec PyProof.Rows L2
/-! ### a tuple times a number of any sign -/
theorem tuple_mul1 (l : Addr) (items : Array Value) (n : Nat) (dd : Option Addr) (sl : Array (Option Value)) (x : Int) (u : Tok) (c0 : (decide (x < -(2 ^ 63)) || decide (x ≥ 2 ^ 63)) = false) (c1 : (items.isEmpty || x == 1) = true) :
    Meets (Builtin.«tuple.__mul__» ⟨[.ref l, .int x u], []⟩) (fun _ R s => s.heap.get? l = some { cls := .type "tuple", dict := dd, data := .seq items n, slots := sl } ∧
      R (.ok (.ret (Value.ref l))) s) :=
  .of_wp fun prog w A R s h => by
    obtain ⟨hp, g, d, tk, os⟩ := s
    obtain ⟨hl, h⟩ := h
    have f1 := AutoSeq1.idx_int
    wp_walk using wpAny_loadPart' hl
    repeat (first
      | (refine wpAny_ite_false (decide_eq_false (by rw [c0]; exact Bool.false_ne_true)) ?_; wp_walk using wpAny_loadPart' hl)
      | (refine wpAny_ite_true (decide_eq_true c1) ?_; wp_walk using wpAny_loadPart' hl))
    exact ⟨_, rfl, h⟩
theorem tuple_mul0 (l : Addr) (items : Array Value) (n : Nat) (dd : Option Addr) (sl : Array (Option Value)) (x : Int) (u : Tok) (c0 : (decide (x < -(2 ^ 63)) || decide (x ≥ 2 ^ 63)) = false) (c1 : (items.isEmpty || x == 1) = false) (c2 : (decide (x ≤ 0) || items.isEmpty) = true) :
    Meets (Builtin.«tuple.__mul__» ⟨[.ref l, .int x u], []⟩) (fun _ R s => s.heap.get? l = some { cls := .type "tuple", dict := dd, data := .seq items n, slots := sl } ∧
      R (.ok (.ret (Value.ref s.heap.objs.size))) { s with heap := s.heap.push { cls := Value.type "tuple", data := Data.seq #[] }, toks := s.toks }) :=
  .of_wp fun prog w A R s h => by
    obtain ⟨hp, g, d, tk, os⟩ := s
    obtain ⟨hl, h⟩ := h
    have f1 := AutoSeq1.idx_int
    wp_walk using wpAny_loadPart' hl
    repeat (first
      | (refine wpAny_ite_false (decide_eq_false (by rw [c0]; exact Bool.false_ne_true)) ?_; wp_walk using wpAny_loadPart' hl)
      | (refine wpAny_ite_false (decide_eq_false (by rw [c1]; exact Bool.false_ne_true)) ?_; wp_walk using wpAny_loadPart' hl)
      | (refine wpAny_ite_true (decide_eq_true c2) ?_; wp_walk using wpAny_loadPart' hl))
    exact ⟨_, rfl, h⟩
def rRepZ (K : PySem.W.Frag) : R2 := fun x y H Q => ∃ l k xs, x = .ref l ∧ y = .int k ∧ SqT K H l xs ∧ xs ≠ [] ∧ -1000 ≤ k ∧ k ≤ 1000 ∧ xs.length ≤ 1000 ∧ (k = 1 → Q (.ref l) H) ∧ (k ≠ 1 → ∀ p, H p = none → Q (.ref p) (upd H p (.tup (List.replicate k.toNat xs).flatten)))
theorem op_repZ {X : Cx} : OpR X (binaryOp .Mult) (rRepZ X.K) := by
  intro pins s σ H x y v u Q I rx ry h
  obtain ⟨l, k, xs, rfl, rfl, hT, hne, h1, h2, hz, q1, q⟩ := h
  by_cases hk2 : 2 ≤ k
  · exact op_repT pins s σ H _ _ v u Q I rx ry ⟨l, k, xs, rfl, rfl, hT, hne, hk2, h2, hz, q (by omega)⟩
  cases rx
  obtain ⟨t, rfl⟩ := ry
  obtain ⟨its, r, ⟨⟨cls, dd, data, sl⟩, ho, hc, n, hd⟩, hs⟩ := I.tuple hT
  simp only at hc hd
  subst hc hd
  have hle : its.length = xs.length := r.length.symm
  have hn : its ≠ [] := fun e => hne (by
    rw [e] at hle
    exact List.eq_nil_of_length_eq_zero hle.symm)
  have hi : its.toArray.isEmpty = false := by
    cases its with
    | nil => exact absurd rfl hn
    | cons a b => rfl
  have c0 : (decide (k < -(2 ^ 63)) || decide (k ≥ 2 ^ 63)) = false := by
    rw [decide_eq_false (by omega), decide_eq_false (by omega)] <;> rfl
  by_cases hk1 : k = 1
  · have c1 : (its.toArray.isEmpty || k == 1) = true := by
      rw [hk1, hi]
      rfl
    refine wpAny_binaryOp_repeat_ref (T := "tuple") (U := "int") (by decide) ⟨_, ho, rfl⟩ (fun s' => typeIs_int s' k t) noFill_tuple_mul F.fills_int_mul F.slot_int_rmul repeat_tuple F.slot_int_index.lookup
      (call_meets F.slot_int_rmul (typeIs_int s k t) F.entry_int_rmul (F.args_int_rmul_2 _ _) (int_rmul_tuple k t l its.toArray n dd sl)
        ⟨ho, rfl, ⟨_, ho, rfl⟩, call_meets F.slot_tuple_mul ⟨_, ho, rfl⟩ F.entry_tuple_mul (F.args_tuple_mul_2 _ _) (tuple_mul1 l its.toArray n dd sl k t c0 c1) ⟨ho, ?_⟩⟩)
    exact ⟨.ref l, H, I, rfl, q1 hk1⟩
  · have c1 : (its.toArray.isEmpty || k == 1) = false := by
      rw [hi, Bool.false_or]
      exact beq_eq_false_iff_ne.mpr hk1
    have c2 : (decide (k ≤ 0) || its.toArray.isEmpty) = true := by
      rw [decide_eq_true (by omega)]
      rfl
    refine wpAny_binaryOp_repeat_ref (T := "tuple") (U := "int") (by decide) ⟨_, ho, rfl⟩ (fun s' => typeIs_int s' k t) noFill_tuple_mul F.fills_int_mul F.slot_int_rmul repeat_tuple F.slot_int_index.lookup
      (call_meets F.slot_int_rmul (typeIs_int s k t) F.entry_int_rmul (F.args_int_rmul_2 _ _) (int_rmul_tuple k t l its.toArray n dd sl)
        ⟨ho, rfl, ⟨_, ho, rfl⟩, call_meets F.slot_tuple_mul ⟨_, ho, rfl⟩ F.entry_tuple_mul (F.args_tuple_mul_2 _ _) (tuple_mul0 l its.toArray n dd sl k t c0 c1 c2) ⟨ho, ?_⟩⟩)
    refine ⟨.ref s.heap.objs.size, _, I.laid (t' := s.toks) (o := .tup (List.replicate k.toNat xs).flatten) (fun b ob q => Heap.get?_push_of_some _ q) (Nat.le_refl _) ?_, rfl, q hk1 _ (I.hok.fresh (Nat.le_refl _))⟩
    rw [show k.toNat = 0 by omega]
    exact ⟨Nat.zero_le _, [], .nil, IsTup.new _ _⟩
end NL

namespace NL
open PySem PySem.Spec PyProof.Rows L2
/-! ### two answers that are the same -/
def Alk : Nat → Hp → V → V → Prop
  | 0, _, _, _ => False
  | n + 1, H, u, v => (u = .non ∧ v = .non) ∨ (∃ s, u = .str s ∧ v = .str s) ∨ (∃ i, u = .int i ∧ v = .int i) ∨ ∃ a b xs ys, u = .ref a ∧ v = .ref b ∧ H a = some (.tup xs) ∧ H b = some (.tup ys) ∧ xs.length = ys.length ∧ ys.length ≤ 1000000 ∧
      ∀ (k : Nat) x y, xs[k]? = some x → ys[k]? = some y → Alk n H x y
theorem Alk.ints {H : Hp} {a b : Addr} {l : List Int} (ha : H a = some (.tup (l.map V.int))) (hb : H b = some (.tup (l.map V.int))) (hl : l.length ≤ 1000000) : Alk 2 H (.ref a) (.ref b) := by
  refine .inr (.inr (.inr ⟨a, b, _, _, rfl, rfl, ha, hb, rfl, by rw [List.length_map]; exact hl, fun k x y hx hy => ?_⟩))
  rw [hx] at hy
  cases hy
  rw [List.getElem?_map] at hx
  obtain ⟨i, _, rfl⟩ := Option.map_eq_some_iff.mp hx
  exact .inr (.inr (.inl ⟨i, rfl, rfl⟩))
section
variable {P : Program} {w : World} {K : PySem.W.Frag} {mg : Str → Option Value} {base : Heap}
def spSame (n : Nat) : Sp := fun vs H Q _ => ∃ u v : V, vs = [u, v] ∧ Alk n H u v ∧ Q (.bl true) H
theorem ok_law_same (T : Txt K mg) : ∀ n : Nat, FnOk P w K mg base CX0 (n + 1) T.a_law_same T.d_law_same P_law_same (spSame n)
  | 0 => by
    have no : ∀ vs H Q E, ¬ spSame 0 vs H Q E := fun vs H Q E ⟨u, v, _, h, _⟩ => h
    exact ⟨fun vs H Q E h => absurd h (no vs H Q E), fun A outer s H args us vs Q E _ _ _ _ h => absurd h (no vs H Q E)⟩
  | n + 1 => by
    have G_law_same := ok_law_same T n
    refine T.F_law_same.ok sc_law_same (fun vs H Q E h => ?_) (fun cdv A outer s H vs Q E hr h => ?_)
    · obtain ⟨u, v, rfl, _⟩ := h
      rfl
    obtain ⟨u, v, rfl, h, q⟩ := h
    refine ⟨_, (pss_cons (ps_if (pt_cmpR op_isN (pv 1) pe_non (nomark _))
    (pss_one (ps_ret (pe_cmpR op_isN (pv 0) pe_non (nomark _))))
    pss_nil)
    (pss_cons (ps_if (pt_val (pe_callB (call_isi) (by rfl) T.z_isinstance (by decide +kernel) (pa_cons (pv 1) (pa_cons (pe_bltn (v := .ty "str") (u := .type "str") (by rfl) T.z_str (by decide +kernel) rfl) pa_nil))))
    (pss_one (ps_ret (pe_and (pe_callB (call_isi) (by rfl) T.z_isinstance (by decide +kernel) (pa_cons (pv 0) (pa_cons (pe_bltn (v := .ty "str") (u := .type "str") (by rfl) T.z_str (by decide +kernel) rfl) pa_nil))) (pe_one (pe_cmpR op_eq (pv 0) (pv 1) (nomark _))))))
    pss_nil)
    (pss_cons (ps_if (pt_val (pe_callB (call_isi) (by rfl) T.z_isinstance (by decide +kernel) (pa_cons (pv 1) (pa_cons (pe_bltn (v := .ty "int") (u := .type "int") (by rfl) T.z_int (by decide +kernel) rfl) pa_nil))))
    (pss_one (ps_ret (pe_and (pe_callB (call_isi) (by rfl) T.z_isinstance (by decide +kernel) (pa_cons (pv 0) (pa_cons (pe_bltn (v := .ty "int") (u := .type "int") (by rfl) T.z_int (by decide +kernel) rfl) pa_nil))) (pe_and (pe_not (pe_callB (call_isi) (by rfl) T.z_isinstance (by decide +kernel) (pa_cons (pv 0) (pa_cons (pe_bltn (v := .ty "bool") (u := .type "bool") (by rfl) T.z_bool (by decide +kernel) rfl) pa_nil)))) (pe_one (pe_cmpR op_eq (pv 0) (pv 1) (nomark _)))))))
    pss_nil)
    (pss_cons (ps_if (PW.pt (pw_or (pt_not (pt_val (pe_callB (call_isi) (by rfl) T.z_isinstance (by decide +kernel) (pa_cons (pv 0) (pa_cons (pe_bltn (v := .ty "tuple") (u := .type "tuple") (by rfl) T.z_tuple (by decide +kernel) rfl) pa_nil))))) (pw_or1 (pt_cmpR op_ne (pe_callB call_len_seq (by rfl) T.z_len PySem.boot_len (pa_cons (pv 0) pa_nil)) (pe_callB call_len_seq (by rfl) T.z_len PySem.boot_len (pa_cons (pv 1) pa_nil)) (nomark _)))))
    (pss_one (ps_ret pe_bl))
    pss_nil)
    (pss_cons (ps_for  PassesOwn.never rfl (pi_range1 (by rfl) T.z_range (pa_cons (pe_callB call_len_seq (by rfl) T.z_len PySem.boot_len (pa_cons (pv 1) pa_nil)) pa_nil)) (pg_name (i := 2) sc_law_same.nd rfl (Or.inl rfl))
    (pss_one (ps_if (pt_not (pt_val (pe_call G_law_same (hr.mono (by omega)) (by rfl) T.m_law_same T.F_law_same.kp T.b_law_same .nil pass0 (pa_cons (pe_ix ix_tup (pv 0) (pv 2) (fun _ _ => rfl)) (pa_cons (pe_ix ix_tup (pv 1) (pv 2) (fun _ _ => rfl)) pa_nil)))))
    (pss_one (ps_ret pe_bl))
    pss_nil)))
    (pss_one (ps_ret pe_bl))))))), ?_⟩
    refine ⟨_, rfl, rfl, _, rfl, ?_⟩
    rcases h with ⟨rfl, rfl⟩ | ⟨s, rfl, rfl⟩ | ⟨i, rfl, rfl⟩ | ⟨a, b, xs, ys, rfl, rfl, ea, eb, hl, hz, hall⟩
    · exact ifT (decide_eq_true rfl) ⟨_, rfl, rfl, boolE (decide_eq_true rfl) q⟩
    · refine ifF (decide_eq_false (fun e => nomatch e)) ?_
      refine ⟨_, rfl, _, _, .type "str", .type "str", true, rfl, .ty "str", .base (.str _), kit_ty (by decide +kernel), true, rfl, ?_⟩
      refine iteT ⟨_, rfl, _, _, .type "str", .type "str", true, rfl, .ty "str", .base (.str _), kit_ty (by decide +kernel), true, rfl, ?_⟩
      exact iteT ⟨_, rfl, _, rfl, rfl, boolE (decide_eq_true rfl) q⟩
    · refine ifF (decide_eq_false (fun e => nomatch e)) ?_
      refine ⟨_, rfl, _, _, .type "int", .type "str", false, rfl, .ty "str", .base (.int _), kit_ty (by decide +kernel), false, rfl, ?_⟩
      refine iteF ⟨_, rfl, _, _, .type "int", .type "int", true, rfl, .ty "int", .base (.int _), kit_ty (by decide +kernel), true, rfl, ?_⟩
      refine iteT ⟨_, rfl, _, _, .type "int", .type "int", true, rfl, .ty "int", .base (.int _), kit_ty (by decide +kernel), true, rfl, ?_⟩
      refine iteT ⟨_, rfl, _, _, .type "int", .type "bool", false, rfl, .ty "bool", .base (.int _), kit_ty (by decide +kernel), false, rfl, true, rfl, ?_⟩
      exact iteT ⟨_, rfl, _, rfl, rfl, boolE (decide_eq_true rfl) q⟩
    · refine ifF (decide_eq_false (fun e => nomatch e)) ?_
      refine ⟨_, rfl, _, _, .type "tuple", .type "str", false, rfl, .ty "str", .base (.tup eb), kit_ty (by decide +kernel), false, rfl, ?_⟩
      refine iteF ⟨_, rfl, _, _, .type "tuple", .type "int", false, rfl, .ty "int", .base (.tup eb), kit_ty (by decide +kernel), false, rfl, ?_⟩
      refine iteF ⟨_, rfl, _, _, .type "tuple", .type "tuple", true, rfl, .ty "tuple", .base (.tup ea), kit_ty (by decide +kernel), true, rfl, ?_⟩
      refine iteF ?_
      refine ⟨_, rfl, a, _, rfl, .inr (sqt ea), _, rfl, b, _, rfl, .inr (sqt eb), rfl, _, rfl, ?_⟩
      refine ifF (by rw [hl, decide_eq_true rfl] <;> rfl) ?_
      refine ⟨_, rfl, b, _, rfl, .inr (sqt eb), _, rfl, by omega, by omega, for_range (lo := 0) (n := ys.length) (fun j σ H' => ∃ y : Option V, σ = [some (.ref a), some (.ref b), y] ∧ H' = H) ?_ ?_ ?_⟩
      · exact ⟨none, rfl, rfl⟩
      · rintro j σ H' hj ⟨y, rfl, rfl⟩
        have hjx : xs[j]? = some xs[j] := List.getElem?_eq_getElem (by omega)
        have hjy : ys[j]? = some ys[j] := List.getElem?_eq_getElem hj
        have e0 : (0 : Int) + (j : Int) = (j : Int) := Int.zero_add _
        refine ⟨_, rfl, _, rfl, a, _, _, _, rfl, rfl, sqt ea, by rw [e0]; exact atI_nat hjx, _, rfl, _, rfl, b, _, _, _, rfl, rfl, sqt eb, by rw [e0]; exact atI_nat hjy, ?_⟩
        refine ⟨_, _, rfl, hall j _ _ hjx hjy, true, rfl, ?_⟩
        exact iteF ⟨_, rfl, rfl⟩
      · rintro σ H' ⟨y, rfl, rfl⟩
        exact q
end
end NL

set_option maxHeartbeats 4000000
namespace NL
open PySem PySem.Spec PyProof.Rows L2
/-! ### the list of successors, whole -/
def sucL (f : Int → List Int) (n : Nat) : List Opt := ((List.range n).map fun k : Nat => f (k : Int)) ++ [f (-1)]
theorem sucL_len (f : Int → List Int) (n : Nat) : (sucL f n).length = n + 1 := by unfold sucL; rw [List.length_append, List.length_map, List.length_range]; rfl
def SucW (H : Hp) (a : Addr) (f : Int → List Int) (n : Nat) : Prop := ∃ xs, H a = some (.lst xs) ∧ Each (OptIn H) (sucL f n) xs
theorem sucL_at {f : Int → List Int} {n : Nat} {p : Int} (h0 : 0 ≤ p) (h1 : p < n) : (sucL f n)[p.toNat]? = some (f p) := by
  unfold sucL
  rw [List.getElem?_append_left (by rw [List.length_map, List.length_range]; omega), List.getElem?_map, List.getElem?_range (by omega)]
  show some (f ((p.toNat : Nat) : Int)) = _
  rw [show ((p.toNat : Nat) : Int) = p by omega]
theorem SucW.at {H : Hp} {f : Int → List Int} {n : Nat} {xs : List V} (h : Each (OptIn H) (sucL f n) xs) {p : Int} (h0 : -1 ≤ p) (h1 : p < n) : ∃ x, atI xs p = some x ∧ OptIn H (f p) x := by
  by_cases hp : 0 ≤ p
  · obtain ⟨o, x, ho, hx, hi⟩ := h.atI hp (by rw [sucL_len]; omega)
    rw [sucL_at hp h1] at ho
    rw [← Option.some.inj ho] at hi
    exact ⟨x, hx, hi⟩
  · have : p = -1 := by omega
    subst this
    have hl := h.1
    rw [sucL_len] at hl
    have hne : xs ≠ [] := fun e => by rw [e] at hl; cases hl
    obtain ⟨ys, y, rfl⟩ : ∃ ys y, xs = ys ++ [y] := ⟨_, _, (List.dropLast_concat_getLast hne).symm⟩
    have hd : ys.length = n := by rw [List.length_append, List.length_singleton] at hl; omega
    refine ⟨y, at_last, h.2 n (f (-1)) _ ?_ ?_⟩
    · unfold sucL
      rw [List.getElem?_append_right (by rw [List.length_map, List.length_range]; exact Nat.le_refl _), List.length_map, List.length_range, Nat.sub_self]
      rfl
    · rw [List.getElem?_append_right (by omega), hd, Nat.sub_self]
      rfl
theorem SucW.a {H : Hp} {a : Addr} {f : Int → List Int} {n : Nat} (h : SucW H a f n) : SucA H a f n := by
  obtain ⟨xs, e, hx⟩ := h
  exact ⟨xs, e, fun p h0 h1 => SucW.at hx h0 h1⟩
theorem SucW.same {H H' : Hp} {a : Addr} {f : Int → List Int} {n : Nat} (h : SucW H a f n) (s : Same H H') : SucW H' a f n := by
  obtain ⟨xs, e, hx⟩ := h
  exact ⟨xs, s _ _ e, hx.mono fun o x => OptIn.tp (Tp.same s)⟩
/-- the colour at a position, and at -1 -/
def cl (cs : List Int) (p : Int) : Int := (cs[if 0 ≤ p then p.toNat else cs.length - 1]?).getD 0
theorem atI_cl {cs : List Int} {p : Int} (h0 : -1 ≤ p) (h1 : p < cs.length) (hn : 0 < cs.length) : atI (cs.map V.int) p = some (V.int (cl cs p)) := by
  unfold cl
  by_cases hp : 0 ≤ p
  · rw [if_pos hp]
    obtain ⟨k, rfl⟩ : ∃ k : Nat, p = (k : Int) := ⟨p.toNat, by omega⟩
    rw [Int.toNat_natCast, List.getElem?_eq_getElem (show k < cs.length by omega)]
    refine atI_nat ?_
    rw [List.getElem?_map, List.getElem?_eq_getElem (show k < cs.length by omega)]
    rfl
  · rw [if_neg hp]
    have : p = -1 := by omega
    subst this
    have hne : cs ≠ [] := fun e => by rw [e] at hn; cases hn
    have e := List.dropLast_concat_getLast hne
    have hl : cs.dropLast.length = cs.length - 1 := List.length_dropLast
    rw [← hl]
    rw [← e, List.map_append]
    rw [List.getElem?_append_right (by rw [List.dropLast_concat]; exact Nat.le_refl _), List.dropLast_concat, Nat.sub_self]
    exact at_last
def lowF (f : Int → List Int) (cs : List Int) (m : Int) (p : Int) : List Int := (f p).filter fun a => decide (cl cs a ≤ m)
theorem low_mem {f : Int → List Int} {cs : List Int} {m p a : Int} : a ∈ lowF f cs m p ↔ a ∈ f p ∧ cl cs a ≤ m := by
  unfold lowF
  rw [List.mem_filter, decide_eq_true_eq]
theorem filt_s {o : Opt} {i : Nat} {a : Int} (f : Int → Bool) (h : o[i]? = some a) : (o.take (i + 1)).filter f = (o.take i).filter f ++ (if f a = true then [a] else []) := by
  rw [List.take_add_one, h, List.filter_append]
  congr 1
  show List.filter f [a] = _
  rw [List.filter_cons]
  rfl
section
variable {P : Program} {w : World} {K : PySem.W.Frag} {mg : Str → Option Value} {base : Heap}
def spSucL : Sp := fun vs H Q _ => ∃ (v : V) (A : Ar) (g : Addr) (G : List Int), vs = [v, .ref g] ∧ ArIn H A v ∧ ArG A ∧ H g = some (.tup (G.map V.int)) ∧ StG A G ∧
  ∀ a H', Same H H' → SucW H' a (scF A G) A.length → Q (.ref a) H'
theorem gx_successors_by (T : Txt K mg) : FnOk P w K mg base CX0 1 T.a_successors_by T.d_successors_by P_successors_by spSucL := by
  refine T.F_successors_by.ok sc_successors_by (fun vs H Q E h => ?_) (fun cdv A outer s H vs Q E hr h => ?_)
  · obtain ⟨v, A, g, G, rfl, _⟩ := h
    rfl
  obtain ⟨v, A0, g, G, rfl, ⟨b0, xs, rfl, e0, hxs⟩, hG, eg, hS, q⟩ := h
  have hxl := hxs.1
  have h46 := hG.1
  refine ⟨_, (pss_one (ps_ret (pe_op op_cat (pe_lc (own := [("index", 2), ("options", 3)]) (g := (gTup K 2 (gCons (gName 2) (gCons (gName 3) gNil)))) (tt := tYes) rfl sc_successors_by.nd (RZ.pi_zipA (by rfl) T.z_zip (pa_cons (pv 1) (pa_cons (pv 0) pa_nil))) (blkOk_by (N := N_successors_by) (sc := defScope s_successors_by) (by decide +kernel)) (fun _ _ _ _ _ => (pg_tup rfl (pgs_cons (pg_name (i := 2) sc_successors_by.nd rfl (Or.inl rfl)) (pgs_cons (pg_name (i := 3) sc_successors_by.nd rfl (Or.inl rfl)) pgs_nil)))) (fun _ _ _ _ _ => pts_nil) (fun _ _ _ _ _ => (pe_ifExp (pt_cmpR op_eq (pv 2) (pe_un un_neg pe_int) (nomark _)) (pe_tup pa_nil) (pe_ix (ix_tupK (K := K) rfl) (pv 3) (pv 2) (fun _ _ => rfl))))) (pe_lst (pa_cons (pe_tup pa_nil) pa_nil))))), ?_⟩
  refine ⟨_, rfl, _, rfl, g, b0, _, _, rfl, .inr ⟨sqt eg, sqt e0, fun D hD => ?_⟩⟩
  refine lc_pairs (K := K) (a := g) (b := b0) (xs := G.map V.int) (ys := xs) A0.length (by rw [List.length_map, hS.len, hxl, Nat.min_self]) (fun (j : Nat) (H' : Hp) => Same H H' ∧ ∃ zs, H' D = some (.lst zs) ∧ Each (OptIn H') ((List.range j).map (scO A0 G)) zs) ?_ ?_ ?_ ?_
  · exact ⟨same_new hD _, [], upd_same, .nil⟩
  · rintro j H' ⟨s1, _⟩
    exact ⟨sqt (s1 _ _ eg), sqt (s1 _ _ e0)⟩
  · rintro j x y t H1 hx hy ⟨s1, zs, e1, hzs⟩ ht
    rw [List.getElem?_map] at hx
    obtain ⟨gi, hgi, rfl⟩ := Option.map_eq_some_iff.mp hx
    have hj : j < A0.length := by
      have := (List.getElem?_eq_some_iff.mp hgi).1
      rw [hS.len] at this
      exact this
    have hos := List.getElem?_eq_getElem hj
    generalize A0[j] = os at hos
    obtain ⟨b1, ys, rfl, e1', hys⟩ := hxs.2 j os y hos hy
    obtain ⟨H2, e2, s2, k2⟩ := newH ht (.tup [V.int gi, V.ref b1])
    rw [e2]
    have s12 := s1.trans s2
    have hzl := hzs.1
    rw [List.length_map, List.length_range] at hzl
    have fin : ∀ (u : V) (H3 : Hp), Same H2 H3 → OptIn H3 (scO A0 G j) u → ∃ acc, H3 D = some (.lst acc) ∧ acc.length < sizeLine ∧ (Same H (upd H3 D (.lst (acc ++ [u]))) ∧ ∃ zs, (upd H3 D (.lst (acc ++ [u]))) D = some (.lst zs) ∧ Each (OptIn (upd H3 D (.lst (acc ++ [u])))) ((List.range (j + 1)).map (scO A0 G)) zs) := fun u H3 s3 hu => by
      have d3 := (s2.trans s3) _ _ e1
      refine ⟨zs, d3, big' (by omega), same_put (s12.trans s3) hD, _, upd_same, ?_⟩
      have tt : Tp H3 (upd H3 D (.lst (zs ++ [u]))) := tp_put Tp.refl d3
      rw [List.range_succ, List.map_append]
      exact (hzs.mono fun o x => OptIn.tp (((SameTp (s2.trans s3)).trans tt))).snoc (hu.tp tt)
    refine ⟨t, _, rfl, sqt k2, rfl, _, _, rfl, _, _, rfl, rfl, rfl, yes_if ?_⟩
    refine ⟨_, rfl, _, rfl, rfl, _, rfl, ?_⟩
    refine ite2 (fun z => ?_) (fun z => ?_)
    · have hg1 : gi = -1 := int_eq z
      refine ⟨Nat.zero_le _, fun te hte => ?_⟩
      refine fin _ _ (same_new hte _) ⟨te, rfl, ?_⟩
      rw [upd_same]
      unfold scO
      rw [hos, hgi]
      simp [hg1]
    · have hg1 : gi ≠ -1 := int_ne z
      have hix := (hS.ix j gi os hgi hos).resolve_left hg1
      obtain ⟨o, x, ho, hat, hox⟩ := hys.atI hix.1 hix.2
      refine ⟨_, rfl, _, rfl, b1, _, _, _, rfl, rfl, sqt (s12 _ _ e1'), hat, ?_⟩
      refine fin _ _ (Same.refl _) ?_
      have : scO A0 G j = o := by
        unfold scO
        rw [hos, hgi]
        simp [hg1, ho]
      rw [this]
      exact hox.tp (SameTp s12)
  · rintro H1 ⟨s1, zs, e1, hzs⟩
    have hzl := hzs.1
    rw [List.length_map, List.length_range] at hzl
    refine ⟨Nat.zero_le _, fun te hte => ?_⟩
    obtain ⟨H2, e2, s2, k2⟩ := newH hte (.tup [])
    rw [e2]
    refine ⟨Nat.le_of_ble_eq_true rfl, fun l hl => ?_⟩
    obtain ⟨H3, e3, s3, k3⟩ := newH hl (.lst [V.ref te])
    rw [e3]
    refine ⟨D, l, _, _, rfl, rfl, (s2.trans s3) _ _ e1, k3, big (by rw [List.length_singleton]; omega), fun r hr' => ?_⟩
    obtain ⟨H4, e4, s4, k4⟩ := newH hr' (.lst (zs ++ [V.ref te]))
    rw [e4]
    have s24 := (s2.trans s3).trans s4
    have hE : Each (OptIn H4) ((List.range A0.length).map (scO A0 G)) zs := hzs.mono fun o x => OptIn.tp (SameTp s24)
    refine q r H4 (s1.trans s24) ⟨_, k4, ?_⟩
    have : sucL (scF A0 G) A0.length = (List.range A0.length).map (scO A0 G) ++ [[]] := by
      unfold sucL
      congr 1
    rw [this]
    exact hE.snoc (a := []) (x := V.ref te) ⟨te, rfl, (s3.trans s4) _ _ k2⟩
/-! ### _ring_below -/
def spRB : Sp := fun vs H Q _ => ∃ (a c : Addr) (f : Int → List Int) (n : Nat) (cs : List Int) (top : Int), vs = [.ref a, .ref c, .int top] ∧ SucW H a f n ∧ SucG f n ∧ (∀ p, (f p).Nodup) ∧ H c = some (.tup (cs.map V.int)) ∧ cs.length = n ∧ 0 ≤ top ∧ top < n ∧
  ∀ R u H', Same H H' → RchR (lowF f cs (cl cs top)) (lowF f cs (cl cs top) top) R → ((∃ e ∈ R, e.1 = top ∧ OptIn H' e.2 u ∧ e.2.length ≤ 401) ∨ (u = .non ∧ top ∉ keysE R)) → Q u H'
end
end NL

set_option maxHeartbeats 4000000
namespace NL
open PySem PySem.Spec PyProof.Rows L2
theorem cr_maxK {X : Cx} {K : PySem.W.Frag} (h : X.K = K) (hc : X.calm = true) : CallR X (.builtin "max") (rMax K) := by
  subst h
  exact cr_max hc
theorem rep_zero : ∀ n : Nat, (List.replicate n [V.int 0]).flatten = ((List.range n).map fun _ : Nat => (0 : Int)).map V.int
  | 0 => rfl
  | n + 1 => by rw [List.replicate_succ', List.flatten_append, rep_zero n, List.range_succ, List.map_append, List.map_append]; rfl
/-- values in a list, and one more at the end -/
def VA (n : Nat) (v : Int → Int) : List Int := ((List.range n).map fun k : Nat => v (k : Int)) ++ [0]
theorem VA_len (n : Nat) (v : Int → Int) : (VA n v).length = n + 1 := by unfold VA; rw [List.length_append, List.length_map, List.length_range]; rfl
theorem VA_at {n k : Nat} {v : Int → Int} (h : k < n) : (VA n v)[k]? = some (v (k : Int)) := by
  unfold VA
  rw [List.getElem?_append_left (by rw [List.length_map, List.length_range]; exact h), List.getElem?_map, List.getElem?_range h]
  rfl
theorem VA_I {n : Nat} {v : Int → Int} {p : Int} (h0 : 0 ≤ p) (h1 : p < n) : atI ((VA n v).map V.int) p = some (V.int (v p)) := by
  obtain ⟨k, rfl⟩ : ∃ k : Nat, p = (k : Int) := ⟨p.toNat, by omega⟩
  refine atI_nat ?_
  rw [List.getElem?_map, VA_at (by omega)]
  rfl
theorem VA_ext {n : Nat} {v u : Int → Int} (h : ∀ k : Nat, k < n → v (k : Int) = u (k : Int)) : VA n v = VA n u := by
  unfold VA
  congr 1
  exact List.map_congr_left fun k hk => h k (List.mem_range.mp hk)
theorem VA_set {n k : Nat} {v : Int → Int} {x : Int} (h : k < n) : (VA n v).set k x = VA n fun q => if q = (k : Int) then x else v q := by
  refine List.ext_getElem? fun i => ?_
  rw [List.getElem?_set]
  by_cases hi : k = i
  · subst hi
    rw [if_pos rfl, if_pos (by rw [VA_len]; omega), VA_at h, if_pos rfl]
  · rw [if_neg hi]
    by_cases hn : i < n
    · rw [VA_at hn, VA_at hn, if_neg (by omega)]
    · unfold VA
      rw [List.getElem?_append_right (by rw [List.length_map, List.length_range]; omega), List.getElem?_append_right (by rw [List.length_map, List.length_range]; omega), List.length_map, List.length_range, List.length_map, List.length_range]
/-- the rows: one at each position of M -/
def RowsV (H : Hp) (rl : Addr) (M : List Int) (f : Int → List Int) (g : Int → Int) (n : Nat) : Prop := ∃ xs, H rl = some (.lst xs) ∧ xs.length = n ∧ ∀ k : Nat, k < n → ∃ a, xs[k]? = some (.ref a) ∧
  ((k : Int) ∈ M → ∃ b t, H a = some (.lst [.ref b]) ∧ H b = some (.tup [.int (g (k : Int)), .ref t]) ∧ H t = some (.tup ((f (k : Int)).map V.int))) ∧ ((k : Int) ∉ M → H a = some (.lst []))
theorem RowsV.same {H H' : Hp} {rl : Addr} {M : List Int} {f : Int → List Int} {g : Int → Int} {n : Nat} (h : RowsV H rl M f g n) (s : Same H H') : RowsV H' rl M f g n := by
  obtain ⟨xs, h1, h2, h3⟩ := h
  refine ⟨xs, s _ _ h1, h2, fun k hk => ?_⟩
  obtain ⟨a, e, i1, i2⟩ := h3 k hk
  refine ⟨a, e, fun hm => ?_, fun hm => s _ _ (i2 hm)⟩
  obtain ⟨b, t, j1, j2, j3⟩ := i1 hm
  exact ⟨b, t, s _ _ j1, s _ _ j2, s _ _ j3⟩
/-- after i rounds -/
structure Rnd (f : Int → List Int) (g : Int → Int) (M : List Int) (i : Nat) (v : Int → Int) : Prop where
  lo : ∀ p ∈ M, lv f g M i p ≤ v p
  up : ∀ u, Pre f g M u → ∀ p ∈ M, v p ≤ u p
  out : ∀ p, p ∉ M → v p = 0
  st : ∀ j, i = j + 1 → ∃ p ∈ M, lv f g M j p < v p
/-- within a round that began with v -/
structure Wth (f : Int → List Int) (g : Int → Int) (M : List Int) (v u : Int → Int) (P : List Int) (c : Bool) : Prop where
  ge : ∀ p, v p ≤ u p
  up : ∀ w, Pre f g M w → ∀ p ∈ M, u p ≤ w p
  out : ∀ p, p ∉ M → u p = 0
  ok : ∀ p ∈ P, p ∈ M → vl f g v p ≤ u p
  no : c = false → u = v
  yes : c = true → ∃ p ∈ M, v p < u p
theorem Wth.step {f : Int → List Int} {g : Int → Int} {M : List Int} {n : Nat} (N : Net f M n) {v u : Int → Int} {P : List Int} {c : Bool} (h : Wth f g M v u P c) (x : Int) : Wth f g M v (lft f g M u x) (P ++ [x]) (c || decide (x ∈ M ∧ u x < vl f g u x)) := by
  have ge2 : ∀ p, v p ≤ lft f g M u x p := fun p => Int.le_trans (h.ge p) (lft_ge u x p)
  refine ⟨ge2, fun w hw => lft_pre N hw (h.up w hw) x, fun p hp => ?_, fun p hp hm => ?_, fun hc => ?_, fun hc => ?_⟩
  · unfold lft
    rw [if_neg fun z => hp (by rw [z.1]; exact z.2.1)]
    exact h.out p hp
  · rcases List.mem_append.mp hp with hp | hp
    · exact Int.le_trans (h.ok p hp hm) (lft_ge u x p)
    · have := List.mem_singleton.mp hp
      subst this
      have h1 := vl_mono (g := g) (N.ne p hm) (fun a _ => h.ge a)
      have h2 := lft_in (f := f) (g := g) (M := M) (v := u) hm
      exact Int.le_trans h1 h2
  · rw [Bool.or_eq_false_iff] at hc
    have hno := of_decide_eq_false hc.2
    rw [← h.no hc.1]
    funext q
    unfold lft
    rw [if_neg fun z => hno ⟨z.2.1, z.2.2⟩]
  · rcases Bool.or_eq_true_iff.mp hc with hc | hc
    · obtain ⟨p, hp, hl⟩ := h.yes hc
      exact ⟨p, hp, Int.lt_of_lt_of_le hl (lft_ge u x p)⟩
    · obtain ⟨h1, h2⟩ := of_decide_eq_true hc
      refine ⟨x, h1, ?_⟩
      have := h.ge x
      have := lft_in (f := f) (g := g) (M := M) (v := u) h1
      omega
theorem Rnd.next {f : Int → List Int} {g : Int → Int} {M : List Int} {n : Nat} (N : Net f M n) {i : Nat} {v u : Int → Int} {P : List Int} (h : Rnd f g M i v) (k : Wth f g M v u P true) (hP : ∀ p ∈ M, p ∈ P) : Rnd f g M (i + 1) u := by
  refine ⟨fun p hp => ?_, k.up, k.out, fun j hj => ?_⟩
  · rw [lv_in hp]
    have h1 := vl_mono (g := g) (N.ne p hp) (fun a ha => h.lo a (N.cl p hp a ha))
    have h2 := k.ok p (hP p hp) hp
    have h3 := h.lo p hp
    have h4 := lv_nn (f := f) (g := g) (M := M) i p
    have h5 := k.ge p
    omega
  · obtain ⟨p, hp, hl⟩ := k.yes rfl
    have : j = i := by omega
    subst this
    exact ⟨p, hp, Int.lt_of_le_of_lt (h.lo p hp) hl⟩
theorem Rnd.stop {f : Int → List Int} {g : Int → Int} {M : List Int} {n : Nat} (N : Net f M n) {i : Nat} {v u : Int → Int} {P : List Int} (h : Rnd f g M i v) (k : Wth f g M v u P false) (hP : ∀ p ∈ M, p ∈ P) : Conv f g M n ∧ ∀ p, u p = lv f g M n p := by
  have e := k.no rfl
  have hpre : Pre f g M u := fun p hp => by
    have h2 := k.ok p (hP p hp) hp
    have h3 := h.lo p hp
    have h4 := lv_nn (f := f) (g := g) (M := M) i p
    rw [e] at h2 ⊢
    exact ⟨by omega, h2⟩
  have hc := hpre.conv N (k := n) (by omega)
  refine ⟨hc, fun p => ?_⟩
  by_cases hp : p ∈ M
  · have h1 := k.up _ hc.pre p hp
    have h2 := lv_pre N hpre n p hp
    omega
  · rw [k.out p hp, lv_out hp]
section
variable {P : Program} {w : World} {K : PySem.W.Frag} {mg : Str → Option Value} {base : Heap}
def spVals : Sp := fun vs H Q _ => ∃ (rl : Addr) (M : List Int) (f : Int → List Int) (g : Int → Int) (n : Nat), vs = [.ref rl, .int 0] ∧ RowsV H rl M f g n ∧ Net f M n ∧ n ≤ 400 ∧ (∀ p ∈ M, (f p).length ≤ 500) ∧
  ∀ u H', Same H H' → ((∃ p, u = .ref p ∧ H' p = some (.lst ((VA n (lv f g M n)).map V.int)) ∧ Conv f g M n) ∨ (u = .non ∧ ¬ Conv f g M n)) → Q u H'
theorem ok_values_of_rows (T : Txt K mg) : FnOk P w K mg base CX0 1 T.avalues_of_rows T.dvalues_of_rows Pvalues_of_rows spVals := by
  refine T.Fvalues_of_rows.ok scvalues_of_rows (fun vs H Q E h => ?_) (fun cdv A outer s H vs Q E hr h => ?_)
  · obtain ⟨rl, M, f, g, n, rfl, _⟩ := h
    rfl
  obtain ⟨rl, M, f, g, n, rfl, hR, N, hn, hfl, q⟩ := h
  obtain ⟨xs, exs, hxl, _⟩ := id hR
  refine ⟨_, (pss_cons (ps_set (i := 2) scvalues_of_rows.nd rfl (Or.inr rfl) (pe_op op_cat (pe_op op_rep (pe_lst (pa_cons pe_int pa_nil)) (pe_callB call_len_seq (by rfl) T.z_len PySem.boot_len (pa_cons (pv 0) pa_nil))) (pe_lst (pa_cons (pv 1) pa_nil))))
    (pss_cons (ps_set (i := 3) scvalues_of_rows.nd rfl (Or.inl rfl) (pe_listRg rfl (by rfl) T.z_list (prg_1 (by rfl) T.z_range (pe_callB call_len_seq (by rfl) T.z_len PySem.boot_len (pa_cons (pv 0) pa_nil)))))
    (pss_cons (ps_for  PassesOwn.never rfl (pi_range1 (by rfl) T.z_range (pa_cons (pe_op op_add (pe_callB call_len_seq (by rfl) T.z_len PySem.boot_len (pa_cons (pv 0) pa_nil)) pe_int) pa_nil)) (pg_name (i := 4) scvalues_of_rows.nd rfl (Or.inl rfl))
    (pss_cons (ps_set (i := 5) scvalues_of_rows.nd rfl (Or.inl rfl) pe_bl)
    (pss_cons (ps_expr (pe_bm0 PySem.F.plainAttrs_list PySem.F.slot_list_reverse PySem.F.type_list_reverse mt_reverse (pv 3)))
    (pss_cons (ps_for  PassesOwn.never rfl (pi_list (pv 3)) (pg_name (i := 6) scvalues_of_rows.nd rfl (Or.inl rfl))
    (pss_cons (ps_set (i := 7) scvalues_of_rows.nd rfl (Or.inl rfl) (pe_callBK (cr_maxDf rfl) (by rfl) T.z_max (by decide +kernel) (pa_cons (pe_lc (own := [("gain", 9), ("option", 10)]) (g := (gTup K 2 (gCons (gName 9) (gCons (gName 10) gNil)))) (tt := tYes) rfl scvalues_of_rows.nd (pi_list (pe_ix ix_list (pv 0) (pv 6) (fun _ _ => rfl))) (blkOk_by (N := Nvalues_of_rows) (sc := defScope svalues_of_rows) (by decide +kernel)) (fun _ _ _ _ _ => (pg_tup rfl (pgs_cons (pg_name (i := 9) scvalues_of_rows.nd rfl (Or.inl rfl)) (pgs_cons (pg_name (i := 10) scvalues_of_rows.nd rfl (Or.inl rfl)) pgs_nil)))) (fun _ _ _ _ _ => pts_nil) (fun _ _ _ _ _ => (pe_op op_sub (pe_callB (cr_maxK (K := K) rfl rfl) (by rfl) T.z_max (by decide +kernel) (pa_cons (pe_lc (own := [("after", 8)]) (g := (gName 8)) (tt := tYes) rfl scvalues_of_rows.nd (pi_tupK (K := K) rfl (pv 10)) (blkOk_by (by rfl)) (fun _ _ _ _ _ => (pg_name (i := 8) scvalues_of_rows.nd rfl (Or.inl rfl))) (fun _ _ _ _ _ => pts_nil) (fun _ _ _ _ _ => (pe_ix (ix_listK (K := K) rfl) (pv 2) (pv 8) (fun _ _ => rfl)))) pa_nil)) (pv 9)))) pa_nil) (pk_cons pe_int pk_nil)))
    (pss_one (ps_if (pt_cmpR op_gt (pv 7) (pe_ix ix_list (pv 2) (pv 6) (fun _ _ => rfl)) (nomark _))
    (pss_cons (ps_asg (pv 7) (pg_sub (pv 2) (pv 6) set_list))
    (pss_one (ps_set (i := 5) scvalues_of_rows.nd rfl (Or.inl rfl) pe_bl)))
    pss_nil))))
    (pss_one (ps_if (pt_not (pt_val (pv 5)))
    (pss_one (ps_ret (pv 2)))
    pss_nil))))))
    (pss_one (ps_ret pe_non))))), ?_⟩
  refine ⟨Nat.le_of_ble_eq_true rfl, fun l0 hl0 => ?_⟩
  obtain ⟨H1, E1, s1, k1⟩ := newH hl0 (.lst [V.int 0])
  rw [show upd H l0 (.lst [V.int 0]) = H1 from E1]
  refine ⟨_, rfl, rl, _, rfl, .inl (sqd (s1 _ _ exs)), l0, _, _, rfl, rfl, k1, by omega, by omega, ?_, fun l1 hl1 => ?_⟩
  · have : [V.int 0].length * ((xs.length : Nat) : Int).toNat ≤ 1000000 := by
      rw [List.length_singleton]
      omega
    exact big this
  obtain ⟨H2, E2, s2, k2⟩ := newH hl1 (.lst (List.replicate ((xs.length : Nat) : Int).toNat [V.int 0]).flatten)
  rw [E2]
  refine ⟨_, rfl, Nat.le_of_ble_eq_true rfl, fun l2 hl2 => ?_⟩
  obtain ⟨H3, E3, s3, k3⟩ := newH hl2 (.lst [V.int 0])
  rw [show upd H2 l2 (.lst [V.int 0]) = H3 from E3]
  have hrep : (List.replicate ((xs.length : Nat) : Int).toNat [V.int 0]).flatten = ((List.range n).map fun _ : Nat => (0 : Int)).map V.int := by
    rw [Int.toNat_natCast, hxl]
    exact rep_zero n
  rw [hrep] at k2
  refine ⟨l1, l2, _, _, rfl, rfl, s3 _ _ k2, k3, big (by rw [List.length_map, List.length_map, List.length_range, List.length_singleton]; omega), fun vl0 hvl0 => ?_⟩
  rw [show ((List.range n).map fun _ : Nat => (0 : Int)).map V.int ++ [V.int 0] = (VA n fun _ => 0).map V.int by unfold VA; rw [List.map_append]; rfl]
  obtain ⟨H4, E4, s4, k4⟩ := newH hvl0 (.lst ((VA n fun _ => 0).map V.int))
  rw [E4]
  have s14 := s1.trans (s2.trans (s3.trans s4))
  refine ⟨_, rfl, rl, _, rfl, .inl (sqd (s14 _ _ exs)), _, rfl, ⟨by omega, by omega, by omega, by omega, by omega⟩, fun ol hol => ?_⟩
  have hord : rgV 0 ((xs.length : Nat) : Int) = ((List.range n).map fun k : Nat => (k : Int)).map V.int := by
    unfold rgV
    rw [List.map_map, show (((xs.length : Nat) : Int) - 0).toNat = n by omega]
    refine List.map_congr_left fun k _ => ?_
    show V.int (0 + (k : Int)) = V.int (k : Int)
    rw [Int.zero_add]
  rw [hord]
  obtain ⟨H5, E5, s5, k5⟩ := newH hol (.lst (((List.range n).map fun k : Nat => (k : Int)).map V.int))
  rw [E5]
  have hvH : H vl0 = none := (s1.trans (s2.trans s3)).free hvl0
  have hoH : H ol = none := s14.free hol
  have hvo : vl0 ≠ ol := fun z => by
    rw [← z, k4] at hol
    cases hol
  have s15 := s14.trans s5
  refine ⟨_, rfl, rl, _, rfl, .inl (sqd (s15 _ _ exs)), _, _, rfl, rfl, _, rfl, by omega, by omega, ?_⟩
  refine for_range (lo := 0) (n := (((xs.length : Nat) : Int) + 1).toNat) (fun (i : Nat) (σ : L2.St) (H' : Hp) => ∃ (v : Int → Int) (os : List Int) (y4 y5 y6 y7 : Option V), σ = [some (.ref rl), some (.int 0), some (.ref vl0), some (.ref ol), y4, y5, y6, y7, none, none, none] ∧ Same H H' ∧ H' vl0 = some (.lst ((VA n v).map V.int)) ∧ H' ol = some (.lst (os.map V.int)) ∧ (∀ k : Nat, k < n → (k : Int) ∈ os) ∧ (∀ x ∈ os, 0 ≤ x ∧ x < (n : Int)) ∧ Rnd f g M i v) ?_ ?_ ?_
  · exact ⟨fun _ => 0, _, none, none, none, none, rfl, s15, s5 _ _ k4, k5, fun k hk => List.mem_map.mpr ⟨k, List.mem_range.mpr hk, rfl⟩, fun x hx => by
      obtain ⟨k, hk, rfl⟩ := List.mem_map.mp hx
      have := List.mem_range.mp hk
      omega, ⟨fun p _ => Int.le_refl 0, fun u hu p hp => (hu p hp).1, fun p _ => rfl, fun j hj => by omega⟩⟩
  · rintro i σ H6 hi ⟨v, os, y4, y5, y6, y7, rfl, s6, kv, ko, hos, hoi, hRd⟩
    refine ⟨_, rfl, .inl ⟨rfl, _, sqd ko⟩, ol, _, rfl, rfl, ko, ?_⟩
    have kv7 : upd H6 ol (.lst (os.map V.int).reverse) vl0 = some (.lst ((VA n v).map V.int)) := by rw [upd_ne hvo]; exact kv
    have ko7 : upd H6 ol (.lst (os.map V.int).reverse) ol = some (.lst (os.reverse.map V.int)) := by rw [upd_same, List.map_reverse]
    have s7 : Same H (upd H6 ol (.lst (os.map V.int).reverse)) := same_put s6 hoH
    generalize upd H6 ol (.lst (os.map V.int).reverse) = H7 at kv7 ko7 s7 ⊢
    refine ⟨_, rfl, ol, rfl, ⟨_, sqd ko7⟩, ?_⟩
    refine for_list (K := K) (a := ol) (xs := os.reverse.map V.int) (fun (j : Nat) (σ : L2.St) (H' : Hp) => ∃ (u : Int → Int) (c : Bool) (y6 y7 : Option V), σ = [some (.ref rl), some (.int 0), some (.ref vl0), some (.ref ol), some (.int (0 + (i : Int))), some (.bl c), y6, y7, none, none, none] ∧ Same H H' ∧ H' vl0 = some (.lst ((VA n u).map V.int)) ∧ H' ol = some (.lst (os.reverse.map V.int)) ∧ Wth f g M v u (os.reverse.take j) c) ?_ ?_ ?_ ?_
    · exact ⟨v, false, _, _, rfl, s7, kv7, ko7, ⟨fun p => Int.le_refl _, hRd.up, hRd.out, (fun p hp => by rw [List.take_zero] at hp; cases hp), (fun _ => rfl), (fun h => nomatch h)⟩⟩
    · rintro j σ H' _ ⟨u, c, y6, y7, rfl, _, _, ko8, _⟩
      exact sqd ko8
    · rintro j x σ H8 hx ⟨u, c, y6, y7, rfl, s8, kv8, ko8, hW⟩
      rw [List.getElem?_map] at hx
      obtain ⟨p, hp, rfl⟩ := Option.map_eq_some_iff.mp hx
      have hpi := hoi p (List.mem_reverse.mp (List.mem_of_getElem? hp))
      obtain ⟨k, rfl⟩ : ∃ k : Nat, p = (k : Int) := ⟨p.toNat, by omega⟩
      have hkn : k < n := by omega
      obtain ⟨xs8, exs8, hxl8, hrow⟩ := hR.same s8
      obtain ⟨a, hxa, hin, hout⟩ := hrow k hkn
      have hstep := hW.step N (k : Int)
      rw [show os.reverse.take j ++ [(k : Int)] = os.reverse.take (j + 1) by rw [List.take_add_one, hp]; rfl] at hstep
      -- what follows the greatest
      have cont : ∀ (z : Int) (H9 : Hp), Same H8 H9 → ((k : Int) ∈ M → z = vl f g u (k : Int)) → ((k : Int) ∉ M → z = 0) → True := fun _ _ _ _ _ => trivial
      refine ⟨_, rfl, _, rfl, rl, _, _, _, rfl, rfl, sqd exs8, atI_nat hxa, a, rfl, ?_⟩
      by_cases hm : (k : Int) ∈ M
      · obtain ⟨b, t, ha, hb, ht⟩ := hin hm
        have hfp := hfl _ hm
        refine ⟨⟨_, sqd ha⟩, fun D hD => ?_⟩
        refine lc_list (K := K) (a := a) (xs := [V.ref b]) (fun (m : Nat) (H' : Hp) => Same H8 H' ∧ H' D = some (.lst ((if m = 0 then [] else [vl f g u (k : Int)]).map V.int))) ?_ ?_ ?_ ?_
        · exact ⟨same_new hD _, upd_same⟩
        · rintro m H' _ ⟨s9, _⟩
          exact sqd (s9 _ _ ha)
        · rintro m x H9 hx9 ⟨s9, k9⟩
          have hm0 : m = 0 := by
            cases m with
            | zero => rfl
            | succ m => simp at hx9
          subst hm0
          cases hx9
          refine ⟨b, _, rfl, sqt (s9 _ _ hb), rfl, _, _, rfl, _, _, rfl, rfl, rfl, yes_if ?_⟩
          refine ⟨_, rfl, t, rfl, ⟨_, sqt (s9 _ _ ht)⟩, fun D2 hD2 => ?_⟩
          refine lc_tup (K := K) (a := t) (xs := (f (k : Int)).map V.int) (fun (i : Nat) (H' : Hp) => Same H9 H' ∧ H' D2 = some (.lst ((((f (k : Int)).take i).map u).map V.int))) ?_ ?_ ?_ ?_
          · exact ⟨same_new hD2 _, upd_same⟩
          · rintro i H' _ ⟨s10, _⟩
            exact sqt ((s9.trans s10) _ _ ht)
          · rintro i x H10 hx10 ⟨s10, k10⟩
            rw [List.getElem?_map] at hx10
            obtain ⟨y, hy, rfl⟩ := Option.map_eq_some_iff.mp hx10
            have hyi := N.inn y (N.cl _ hm y (List.mem_of_getElem? hy))
            refine ⟨rfl, yes_if ?_⟩
            refine ⟨_, rfl, _, rfl, vl0, _, _, _, rfl, rfl, sqd ((s9.trans s10) _ _ kv8), VA_I hyi.1 hyi.2, _, k10, big' (by rw [List.length_map, List.length_map, List.length_take]; omega), same_put s10 hD2, ?_⟩
            rw [upd_same, List.take_add_one, hy, List.map_append, List.map_append]
            rfl
          rintro H10 ⟨s10, k10⟩
          rw [List.length_map, List.take_length] at k10
          refine ⟨D2, _, rfl, sqd k10, by rw [List.length_map]; exact List.length_pos_iff.mpr (N.ne _ hm), fun mx h1 h2 => ?_⟩
          obtain rfl := mxL_eq h1 h2
          refine ⟨_, rfl, _, _, rfl, rfl, _, s10 _ _ k9, big' (by show 0 ≤ _; exact Nat.zero_le _), same_put (s9.trans s10) hD, ?_⟩
          rw [upd_same]
          rfl
        rintro H9 ⟨s9, k9⟩
        rw [if_neg (show ¬ [V.ref b].length = 0 from Nat.one_ne_zero)] at k9
        refine ⟨D, _, 0, rfl, rfl, sqd k9, fun z _ hz => ?_⟩
        have hz1 : z = vl f g u (k : Int) := List.mem_singleton.mp (hz (by simp)).1
        subst hz1
        refine ⟨_, rfl, _, rfl, _, rfl, vl0, _, _, _, rfl, rfl, sqd (s9 _ _ kv8), VA_I (by omega) (by omega), _, _, rfl, rfl, _, rfl, ?_⟩
        by_cases hlt : u (k : Int) < vl f g u (k : Int)
        · refine ifT (decide_eq_true hlt) ?_
          refine ⟨_, rfl, _, rfl, _, rfl, vl0, _, _, _, rfl, rfl, s9 _ _ kv8, ixN_in (by omega) (by rw [List.length_map, VA_len]; omega), ?_⟩
          rw [decide_eq_true (show (k : Int) ∈ M ∧ u (k : Int) < vl f g u (k : Int) from ⟨hm, hlt⟩), Bool.or_true] at hstep
          refine ⟨lft f g M u (k : Int), true, _, _, rfl, same_put (s8.trans s9) hvH, ?_, by rw [upd_ne hvo.symm]; exact s9 _ _ ko8, hstep⟩
          rw [upd_same, Int.toNat_natCast, ← List.map_set, VA_set hkn]
          refine congrArg (fun l => some (HO.lst (List.map V.int l))) (VA_ext fun i _ => ?_)
          unfold lft
          by_cases hik : (i : Int) = (k : Int)
          · rw [if_pos hik, if_pos ⟨hik, hm, hlt⟩]
          · rw [if_neg hik, if_neg fun z => hik z.1]
        · refine ifF (decide_eq_false hlt) ?_
          rw [decide_eq_false (show ¬ ((k : Int) ∈ M ∧ u (k : Int) < vl f g u (k : Int)) from fun z => hlt z.2), Bool.or_false] at hstep
          have e : lft f g M u (k : Int) = u := by
            funext q
            unfold lft
            rw [if_neg fun z => hlt z.2.2]
          rw [e] at hstep
          exact ⟨u, c, _, _, rfl, s8.trans s9, s9 _ _ kv8, s9 _ _ ko8, hstep⟩
      · have ha := hout hm
        refine ⟨⟨_, sqd ha⟩, fun D hD => ?_⟩
        refine lc_list (K := K) (a := a) (xs := []) (fun (m : Nat) (H' : Hp) => Same H8 H' ∧ H' D = some (.lst (([] : List Int).map V.int))) ?_ ?_ ?_ ?_
        · exact ⟨same_new hD _, upd_same⟩
        · rintro m H' _ ⟨s9, _⟩
          exact sqd (s9 _ _ ha)
        · rintro m x H9 hx9 _
          cases hx9
        rintro H9 ⟨s9, k9⟩
        refine ⟨D, _, 0, rfl, rfl, sqd k9, fun z hz _ => ?_⟩
        have hz1 := hz rfl
        subst hz1
        refine ⟨_, rfl, _, rfl, _, rfl, vl0, _, _, _, rfl, rfl, sqd (s9 _ _ kv8), VA_I (by omega) (by omega), _, _, rfl, rfl, _, rfl, ?_⟩
        have hu0 := hW.out _ hm
        refine ifF (decide_eq_false (by rw [hu0]; exact Int.lt_irrefl 0)) ?_
        rw [decide_eq_false (show ¬ ((k : Int) ∈ M ∧ u (k : Int) < vl f g u (k : Int)) from fun z => hm z.1), Bool.or_false] at hstep
        have e : lft f g M u (k : Int) = u := by
          funext q
          unfold lft
          rw [if_neg fun z => hm z.2.1]
        rw [e] at hstep
        exact ⟨u, c, _, _, rfl, s8.trans s9, s9 _ _ kv8, s9 _ _ ko8, hstep⟩
    · rintro σ H8 ⟨u, c, y6, y7, rfl, s8, kv8, ko8, hW⟩
      rw [List.length_map, List.take_length] at hW
      have hP : ∀ p ∈ M, p ∈ os.reverse := fun p hp => by
        have h1 := N.inn p hp
        have := hos p.toNat (by omega)
        rw [show ((p.toNat : Nat) : Int) = p by omega] at this
        exact List.mem_reverse.mpr this
      refine ⟨_, rfl, c, rfl, ?_⟩
      cases c with
      | false =>
        refine iteT ?_
        obtain ⟨hc, he⟩ := hRd.stop N hW hP
        refine ⟨_, rfl, q (.ref vl0) H8 s8 (.inl ⟨vl0, rfl, ?_, hc⟩)⟩
        rw [kv8, VA_ext fun k _ => he (k : Int)]
      | true =>
        refine iteF ?_
        exact ⟨u, os.reverse, _, _, _, _, rfl, s8, kv8, ko8, fun k hk => List.mem_reverse.mpr (hos k hk), fun x hx => hoi x (List.mem_reverse.mp hx), hRd.next N hW hP⟩
  · rintro σ H6 ⟨v, os, y4, y5, y6, y7, rfl, s6, kv, ko, hos, hoi, hRd⟩
    refine q .non H6 s6 (.inr ⟨rfl, fun hc => ?_⟩)
    obtain ⟨p, hp, hlt⟩ := hRd.st n (by omega)
    have := hRd.up _ hc.pre p hp
    omega
end
end NL

set_option maxHeartbeats 4000000
namespace NL
open PySem PySem.Spec PyProof.Rows L2
theorem op_eqDK {X : Cx} {K : PySem.W.Frag} (h : X.K = K) (hu : X.A.units + 64 < cLine) : OpR X (compareOp .Eq) (rEqD K) := by
  subst h
  exact op_eqD hu
theorem sc_nd {A : Ar} {G : List Int} (h : ArG A) (p : Int) : (scF A G p).Nodup := by
  unfold scF
  split
  · unfold scO
    split
    · rename_i os g h1 h2
      split
      · exact List.nodup_nil
      · cases h3 : os[g.toNat]? with
        | none => exact List.nodup_nil
        | some o => exact ((h.2 os (List.mem_of_getElem? h1)).2 o (List.mem_of_getElem? h3)).asc.imp fun h => Int.ne_of_lt h
    · exact List.nodup_nil
  · exact List.nodup_nil
theorem sc_out {A : Ar} {G : List Int} {p : Int} (h : scF A G p ≠ []) : 0 ≤ p := by
  refine Classical.byContradiction fun hn => h ?_
  unfold scF
  rw [if_neg hn]
theorem sc_pt {A : Ar} {G : List Int} {p : Int} (hS : StG A G) (h0 : 0 ≤ p) (h1 : p < A.length) : ∃ g os, G[p.toNat]? = some g ∧ A[p.toNat]? = some os ∧ ((g = -1 ∧ scF A G p = []) ∨ (0 ≤ g ∧ g < os.length ∧ os[g.toNat]? = some (scF A G p))) := by
  have hl := hS.len
  have hg := List.getElem?_eq_getElem (show p.toNat < G.length by omega)
  have ho := List.getElem?_eq_getElem (show p.toNat < A.length by omega)
  generalize G[p.toNat] = g at hg
  generalize A[p.toNat] = os at ho
  refine ⟨g, os, hg, ho, ?_⟩
  have e : scF A G p = if g = -1 then [] else (os[g.toNat]?).getD [] := by
    unfold scF
    rw [if_pos h0]
    unfold scO
    rw [hg, ho]
  rcases hS.ix _ g os hg ho with h | h
  · exact .inl ⟨h, by rw [e, if_pos h]⟩
  · refine .inr ⟨h.1, h.2, ?_⟩
    rw [e, if_neg (by omega), List.getElem?_eq_getElem (show g.toNat < os.length by omega)]
    rfl
theorem atI_get {α : Type} {xs : List α} {p : Int} {x : α} (h0 : 0 ≤ p) (h : xs[p.toNat]? = some x) : atI xs p = some x := by
  have := atI_nat h
  rw [show ((p.toNat : Nat) : Int) = p by omega] at this
  exact this
theorem map_get {l : List Int} {k : Nat} {x : Int} (h : l[k]? = some x) : (l.map V.int)[k]? = some (V.int x) := by
  rw [List.getElem?_map, h]
  rfl
/-- the gain by a strategy -/
def gnF (B : Pos') (G : List Int) (p : Int) : Int := ((((B[p.toNat]?).getD [])[((G[p.toNat]?).getD 0).toNat]?).getD 0)
structure GnG (A : Ar) (B : Pos') : Prop where
  len : B.length = A.length
  row : ∀ (k : Nat) (os : Pos') (r : List Int), A[k]? = some os → B[k]? = some r → r.length = os.length
theorem gn_at {A : Ar} {B : Pos'} {G : List Int} {p g : Int} {os : Pos'} (h : GnG A B) (h0 : 0 ≤ p) (hg : G[p.toNat]? = some g) (ho : A[p.toNat]? = some os) (g0 : 0 ≤ g) (g1 : g < os.length) : ∃ r, B[p.toNat]? = some r ∧ r[g.toNat]? = some (gnF B G p) := by
  have hl := (List.getElem?_eq_some_iff.mp ho).1
  obtain ⟨r, hb⟩ : ∃ r, B[p.toNat]? = some r := ⟨_, List.getElem?_eq_getElem (by rw [h.len]; exact hl)⟩
  have hr := h.row _ os r ho hb
  refine ⟨r, hb, ?_⟩
  unfold gnF
  rw [hb, hg]
  show r[g.toNat]? = some ((r[g.toNat]?).getD 0)
  rw [List.getElem?_eq_getElem (show g.toNat < r.length by omega)]
  rfl
theorem eqv_emp : ∀ l : List Int, PyData.eqv (.tuple (l.map PyData.int)) (.tuple []) = l.isEmpty
  | [] => rfl
  | _ :: _ => rfl
/-- rows whose lists are none of them the list of rows -/
def RowsW (H : Hp) (rl : Addr) (M : List Int) (f : Int → List Int) (g : Int → Int) (n : Nat) : Prop := ∃ xs, H rl = some (.lst xs) ∧ xs.length = n ∧ ∀ k : Nat, k < n → ∃ a, a ≠ rl ∧ xs[k]? = some (.ref a) ∧
  ((k : Int) ∈ M → ∃ b t, H a = some (.lst [.ref b]) ∧ H b = some (.tup [.int (g (k : Int)), .ref t]) ∧ H t = some (.tup ((f (k : Int)).map V.int))) ∧ ((k : Int) ∉ M → H a = some (.lst []))
theorem RowsW.v {H : Hp} {rl : Addr} {M : List Int} {f : Int → List Int} {g : Int → Int} {n : Nat} (h : RowsW H rl M f g n) : RowsV H rl M f g n := by
  obtain ⟨xs, h1, h2, h3⟩ := h
  refine ⟨xs, h1, h2, fun k hk => ?_⟩
  obtain ⟨a, _, e, i1, i2⟩ := h3 k hk
  exact ⟨a, e, i1, i2⟩
theorem RowsW.keep {H H' : Hp} {rl D : Addr} {M : List Int} {f : Int → List Int} {g : Int → Int} {n : Nat} {kvs : List (Key × V)} {od : Obj} (h : RowsW H rl M f g n) (hD : H D = some (.dK kvs) ∨ H D = some (.frz od (.dK kvs))) (s : ∀ b o, b ≠ D → H b = some o → H' b = some o) : RowsW H' rl M f g n := by
  have nl : ∀ {x : Addr} {l : List V}, H x = some (.lst l) → x ≠ D := fun e z => by
    rw [z] at e
    rcases hD with h | h <;> rw [h] at e <;> cases e
  have nt : ∀ {x : Addr} {l : List V}, H x = some (.tup l) → x ≠ D := fun e z => by
    rw [z] at e
    rcases hD with h | h <;> rw [h] at e <;> cases e
  obtain ⟨xs, h1, h2, h3⟩ := h
  refine ⟨xs, s _ _ (nl h1) h1, h2, fun k hk => ?_⟩
  obtain ⟨a, ne, e, i1, i2⟩ := h3 k hk
  refine ⟨a, ne, e, fun hm => ?_, fun hm => s _ _ (nl (i2 hm)) (i2 hm)⟩
  obtain ⟨b, t, j1, j2, j3⟩ := i1 hm
  exact ⟨b, t, s _ _ (nl j1) j1, s _ _ (nt j2) j2, s _ _ (nt j3) j3⟩
theorem RowsW.set {H : Hp} {rl l b t : Addr} {M : List Int} {f : Int → List Int} {g : Int → Int} {n k : Nat} {xs : List V} (h : RowsW H rl M f g n) (hx : H rl = some (.lst xs)) (hk : k < n) (hl : l ≠ rl) (e1 : H l = some (.lst [.ref b])) (e2 : H b = some (.tup [.int (g (k : Int)), .ref t])) (e3 : H t = some (.tup ((f (k : Int)).map V.int))) : RowsW (upd H rl (.lst (xs.set k (.ref l)))) rl (M ++ [(k : Int)]) f g n := by
  obtain ⟨xs', h1, h2, h3⟩ := h
  rw [hx] at h1
  cases h1
  have ut : ∀ {x : Addr} {l' : List V}, H x = some (.tup l') → upd H rl (.lst (xs.set k (.ref l))) x = some (.tup l') := fun e => by
    rw [upd_ne (fun z => by rw [z, hx] at e; cases e)]
    exact e
  refine ⟨xs.set k (.ref l), upd_same, by rw [List.length_set, h2], fun i hi => ?_⟩
  by_cases hik : i = k
  · subst hik
    refine ⟨l, hl, by rw [List.getElem?_set, if_pos rfl, if_pos (by omega)], fun _ => ⟨b, t, by rw [upd_ne hl]; exact e1, ut e2, ut e3⟩, fun hn => (hn (List.mem_append_right _ (List.mem_singleton.mpr rfl))).elim⟩
  · obtain ⟨a, ne, e, i1, i2⟩ := h3 i hi
    refine ⟨a, ne, by rw [List.getElem?_set, if_neg (fun z => hik z.symm)]; exact e, fun hm => ?_, fun hm => ?_⟩
    · have hm' : (i : Int) ∈ M := by
        rcases List.mem_append.mp hm with hm | hm
        · exact hm
        · have := List.mem_singleton.mp hm
          omega
      obtain ⟨b', t', j1, j2, j3⟩ := i1 hm'
      exact ⟨b', t', by rw [upd_ne ne]; exact j1, ut j2, ut j3⟩
    · rw [upd_ne ne]
      exact i2 fun z => hm (List.mem_append_left _ z)
section
variable {P : Program} {w : World} {K : PySem.W.Frag} {mg : Str → Option Value} {base : Heap}
def spCred : Sp := fun vs H Q _ => ∃ (v gv : V) (A : Ar) (B : Pos') (ga : Addr) (G : List Int) (st : Int), vs = [v, gv, .ref ga, .int st] ∧ ArIn H A v ∧ ArG A ∧ PosIn H B gv ∧ GnG A B ∧ H ga = some (.tup (G.map V.int)) ∧ StG A G ∧ 0 ≤ st ∧ st < A.length ∧
  ∀ u H' R, Same H H' → RchR (scF A G) [st] R → ((u = .non ∧ ∃ p ∈ keysE R, scF A G p = []) ∨ ((∀ p ∈ keysE R, scF A G p ≠ []) ∧ ((u = .int (lv (scF A G) (gnF B G) (keysE R) A.length st) ∧ Conv (scF A G) (gnF B G) (keysE R) A.length) ∨ (u = .non ∧ ¬ Conv (scF A G) (gnF B G) (keysE R) A.length)))) → Q u H'
theorem ok_strategy_credit (T : Txt K mg) : FnOk P w K mg base CX0 3 T.astrategy_credit T.dstrategy_credit Pstrategy_credit spCred := by
  have G_successors_by := gx_successors_by (P := P) (w := w) (base := base) T
  have G_least_rows := gx_least_rows (P := P) (w := w) (base := base) T
  have Gvalues_of_rows := ok_values_of_rows (P := P) (w := w) (base := base) T
  refine T.Fstrategy_credit.ok scstrategy_credit (fun vs H Q E h => ?_) (fun cdv A outer s H vs Q E hr h => ?_)
  · obtain ⟨v, gv, A, B, ga, G, st, rfl, _⟩ := h
    rfl
  obtain ⟨v, gv, A0, B, ga, G, st, rfl, hA, hG, hB, hBG, eg, hS, st0, st1, q⟩ := h
  have h400 := hG.1
  refine ⟨_, (pss_cons (ps_set (i := 4) scstrategy_credit.nd rfl (Or.inr rfl) (pe_call G_successors_by (hr.mono (by omega)) (by rfl) T.m_successors_by T.F_successors_by.kp T.b_successors_by .nil pass0 (pa_cons (pv 0) (pa_cons (pv 2) pa_nil))))
    (pss_cons (ps_set (i := 5) scstrategy_credit.nd rfl (Or.inl rfl) (pe_call G_least_rows (hr.mono (by omega)) (by rfl) T.m_least_rows T.F_least_rows.kp T.b_least_rows .nil pass0 (pa_cons (pv 4) (pa_cons (pe_tup (pa_cons (pv 3) pa_nil)) pa_nil))))
    (pss_cons (ps_lock (ps_if (pt_val (pe_callB (cr_any rfl) (by rfl) T.z_any (by decide +kernel) (pa_cons (pe_lc (own := [("place", 6)]) (g := (gName 6)) (tt := tYes) rfl scstrategy_credit.nd (pi_keys (pv 5)) (blkOk_by (N := Nstrategy_credit) (sc := defScope sstrategy_credit) (by decide +kernel)) (fun _ _ _ _ _ => (pg_name (i := 6) scstrategy_credit.nd rfl (Or.inl rfl))) (fun _ _ _ _ _ => pts_nil) (fun _ _ _ _ _ => (pe_cmpR (op_eqDK (K := K) rfl hr.units) (pe_ix (ix_listK (K := K) rfl) (pv 4) (pv 6) (fun _ _ => rfl)) (pe_tup pa_nil) (nomark _)))) pa_nil)))
    (pss_one (ps_ret pe_non))
    pss_nil))
    (pss_cons (ps_setLc (i := 7) (own := [("_", 8)]) (g := (gName 8)) (tt := tYes) rfl scstrategy_credit.nd rfl rfl (sw_true rfl rfl rfl (by decide +kernel)) (pi_tup (pv 0)) (blkOk_by (N := Nstrategy_credit) (sc := defScope sstrategy_credit) (by decide +kernel)) (fun _ _ _ _ _ => (pg_name (i := 8) scstrategy_credit.nd rfl (Or.inl rfl))) (fun _ _ _ _ _ => pts_nil) (fun _ _ _ _ _ => (pe_lst pa_nil)))
    (pss_cons (ps_lock (ps_for PassesOwn.never rfl (pi_keys (pv 5)) (pg_name (i := 6) scstrategy_credit.nd rfl (Or.inl rfl))
    (pss_one (ps_asg (pe_lst (pa_cons (pe_tup (pa_cons (pe_ix ix_tup (pe_ix ix_tup (pv 1) (pv 6) (fun _ _ => rfl)) (pe_ix ix_tup (pv 2) (pv 6) (fun _ _ => rfl)) (fun _ _ => rfl)) (pa_cons (pe_ix ix_list (pv 4) (pv 6) (fun _ _ => rfl)) pa_nil))) pa_nil)) (pg_sub (pv 7) (pv 6) set_list)))))
    (pss_cons (ps_set (i := 9) scstrategy_credit.nd rfl (Or.inl rfl) (pe_call Gvalues_of_rows (hr.mono (by omega)) (by rfl) T.mvalues_of_rows T.Fvalues_of_rows.kp T.bvalues_of_rows .nil pass0 (pa_cons (pv 7) (pa_cons pe_int pa_nil))))
    (pss_one (ps_ret (pe_ifExp (pt_cmpR op_isN (pv 9) pe_non (nomark _)) pe_non (pe_ix ix_list (pv 9) (pv 3) (fun _ _ => rfl))))))))))), ?_⟩
  refine ⟨_, rfl, _, rfl, v, A0, ga, G, rfl, hA, hG, eg, hS, fun a H1 s1 hW1 => ?_⟩
  refine ⟨_, rfl, _, rfl, Nat.le_of_ble_eq_true rfl, fun b hb => ?_⟩
  obtain ⟨H2, e2, s2, k2⟩ := newH hb (.tup [V.int st])
  rw [e2]
  have hW2 := hW1.same s2
  refine ⟨a, b, scF A0 G, A0.length, [st], rfl, hW2.a, sc_good hG, by omega, k2, List.nodup_cons.mpr ⟨fun h => (nomatch h), List.nodup_nil⟩, fun s hs => by rw [List.mem_singleton.mp hs]; omega, fun D kvs R H3 s3 hDn e3 hR gR hRch => ?_⟩
  have s13 := (s1.trans s2).trans s3
  obtain ⟨xs, ex, hx⟩ := hW2.same s3
  have hfnd := fun p => sc_nd (G := G) hG p
  have hout := fun (p : Int) (h : scF A0 G p ≠ []) => sc_out h
  have hpt := fun (p : Int) (h0 : 0 ≤ p) (h1 : p < (A0.length : Int)) => sc_pt (G := G) hS h0 h1
  generalize hf : scF A0 G = f at *
  have hDold : ∀ {o : HO}, H D = some o → False := fun {o} h => by
    have h1 := (s1.trans s2) _ _ h
    rw [hDn] at h1
    cases h1
  have hlk := hR.len
  have hDa : ∀ {x : Addr} {l : List V}, H3 x = some (.lst l) → x ≠ D := fun h z => by
    rw [z, e3] at h
    cases h
  have hDt : ∀ {x : Addr} {l : List V}, H3 x = some (.tup l) → x ≠ D := fun h z => by
    rw [z, e3] at h
    cases h
  have fin : ∀ {H' : Hp}, (∀ b o, b ≠ D → H3 b = some o → H' b = some o) → Same H (upd H' D (.dK kvs)) := fun {H'} hk b o e => by
    have ne : b ≠ D := fun z => hDold (z ▸ e)
    rw [upd_ne ne]
    exact hk b o ne (s13 _ _ e)
  -- any of them lost
  refine ⟨D, .dK kvs, e3, trivial, fun od => ?_⟩
  refine ⟨_, rfl, D, od, rfl, .inl ⟨kvs, upd_same, fun L hL => ?_⟩⟩
  have hLD : L ≠ D := fun z => by
    rw [z, upd_same] at hL
    cases hL
  have hL3 : H3 L = none := by
    rw [upd_ne hLD] at hL
    exact hL
  refine lc_it walk_keys (fun (i : Nat) (H' : Hp) => H' D = some (.frz od (.dK kvs)) ∧ (∀ b o, b ≠ D → H3 b = some o → H' b = some o) ∧ H' L = some (.lst ((((keysE R).take i).map fun p => (f p).isEmpty).map V.bl))) ?_ ?_ ?_ ?_
  · refine ⟨by rw [upd_ne hLD.symm, upd_same], fun b o ne e => ?_, upd_same⟩
    rw [upd_ne (fun z => by rw [z, hL3] at e; cases e), upd_ne ne]
    exact e
  · rintro i H' _ ⟨e4, _⟩
    exact e4
  · rintro i x H4 H5 hi ⟨e4, hk4, k4⟩ ⟨rfl, k, u, hku, rfl⟩
    obtain ⟨e, he, rfl, ou⟩ := hR.get i k u hku
    have hin := gR.inn e (List.mem_of_getElem? he)
    obtain ⟨x, hat, t, rfl, et⟩ := SucW.at hx hin.1 hin.2
    have ex4 := hk4 _ _ (hDa ex) ex
    have et4 := hk4 _ _ (hDt et) et
    refine ⟨rfl, yes_if ?_⟩
    refine ⟨_, rfl, _, rfl, a, xs, e.1, _, rfl, rfl, sqd ex4, hat, Nat.zero_le _, fun te hte => ?_⟩
    obtain ⟨H6, e6, s6, k6⟩ := newH hte (.tup [])
    rw [e6]
    have fc : (f e.1).length ≤ 401 := by
      have hsg := sc_good (G := G) hG
      rw [hf] at hsg
      have := nd_len (-1) (A0.length + 1) (f e.1) (hfnd e.1) fun x hx => by have := hsg.mem e.1 x hx; omega
      omega
    refine ⟨.tuple ((f e.1).map PyData.int), .tuple [], .tup (sqt (s6 _ _ et4)) (dp_ints _), .tup (sqt k6) .nil, shaped_tup _, rfl, ?_⟩
    rw [eqv_emp]
    have k6L := s6 _ _ k4
    have few := gR.few (by omega)
    refine ⟨_, k6L, big' (by rw [List.length_map, List.length_map, List.length_take]; have : (keysE R).length = R.length := List.length_map ..; omega), by rw [upd_ne hLD.symm]; exact s6 _ _ e4, fun b o ne h => ?_, ?_⟩
    · rw [upd_ne (fun z => by rw [z, hL3] at h; cases h)]
      exact s6 _ _ (hk4 b o ne h)
    · have hke : (keysE R)[i]? = some e.1 := by
        unfold keysE
        rw [List.getElem?_map, he]
        rfl
      rw [upd_same, List.take_add_one, hke, List.map_append, List.map_append]
      rfl
  rintro H4 ⟨e4, hk4, k4⟩
  rw [hlk, show R.length = (keysE R).length from (List.length_map ..).symm, List.take_length] at k4
  refine ⟨L, _, rfl, sqd k4, ?_⟩
  by_cases hany : ∃ p ∈ keysE R, f p = []
  · obtain ⟨p0, hp0, hf0⟩ := hany
    refine ⟨true, ?_, ?_⟩
    · have : ((keysE R).map fun p => (f p).isEmpty).any id = true := List.any_eq_true.mpr ⟨true, List.mem_map.mpr ⟨p0, hp0, by rw [hf0]; rfl⟩, rfl⟩
      rw [this] <;> rfl
    refine iteT ⟨e4, ?_⟩
    exact q .non _ R (fin hk4) hRch (.inl ⟨rfl, p0, hp0, hf0⟩)
  have hne : ∀ p ∈ keysE R, f p ≠ [] := fun p hp h => hany ⟨p, hp, h⟩
  refine ⟨false, ?_, ?_⟩
  · have : ((keysE R).map fun p => (f p).isEmpty).any id = false := by
      refine List.any_eq_false.mpr fun x hx => ?_
      obtain ⟨p, hp, rfl⟩ := List.mem_map.mp hx
      have := hne p hp
      cases h : f p with
      | nil => exact absurd h this
      | cons c r => exact Bool.false_ne_true
    rw [this] <;> rfl
  refine iteF ⟨e4, ?_⟩
  have hk5 : ∀ b o, b ≠ D → H3 b = some o → upd H4 D (.dK kvs) b = some o := fun b o ne h => by
    rw [upd_ne ne]
    exact hk4 b o ne h
  have e5D : upd H4 D (.dK kvs) D = some (.dK kvs) := upd_same
  generalize upd H4 D (.dK kvs) = H5 at hk5 e5D ⊢
  have old : ∀ {x : Addr} {l : List V}, H x = some (.tup l) → H5 x = some (.tup l) := fun h => hk5 _ _ (hDt (s13 _ _ h)) (s13 _ _ h)
  obtain ⟨b0, xa, rfl, e0, hxa⟩ := hA
  obtain ⟨gb, xg, rfl, egb, hxg⟩ := hB
  have hxl := hxa.1
  refine ⟨_, rfl, b0, rfl, ⟨_, sqt (old e0)⟩, fun RL hRL => ?_⟩
  refine lc_tup (K := K) (a := b0) (xs := xa) (fun (j : Nat) (H' : Hp) => Same H5 H' ∧ ∃ zs, H' RL = some (.lst zs) ∧ zs.length = j ∧ ∀ k : Nat, k < j → ∃ a, a ≠ RL ∧ zs[k]? = some (.ref a) ∧ H' a = some (.lst [])) ?_ ?_ ?_ ?_
  · exact ⟨same_new hRL _, [], upd_same, rfl, fun k hk => absurd hk (Nat.not_lt_zero k)⟩
  · rintro j H' _ ⟨s6, _⟩
    exact sqt (s6 _ _ (old e0))
  · rintro j x H6 hx6 ⟨s6, zs, k6, hzl, hz⟩
    have hjl := (List.getElem?_eq_some_iff.mp hx6).1
    refine ⟨rfl, yes_if ?_⟩
    refine ⟨Nat.zero_le _, fun t ht => ?_⟩
    obtain ⟨H7, e7, s7, k7⟩ := newH ht (.lst [])
    rw [e7]
    have d7 := s7 _ _ k6
    have htR : t ≠ RL := fun z => by
      rw [z, k6] at ht
      cases ht
    refine ⟨zs, d7, big' (by omega), same_put (s6.trans s7) hRL, zs ++ [.ref t], upd_same, by rw [List.length_append, hzl]; rfl, fun k hk => ?_⟩
    by_cases hkj : k < j
    · obtain ⟨a', ne, h1, h2⟩ := hz k hkj
      exact ⟨a', ne, by rw [List.getElem?_append_left (by omega)]; exact h1, by rw [upd_ne ne]; exact s7 _ _ h2⟩
    · have : k = j := by omega
      subst this
      exact ⟨t, htR, by rw [List.getElem?_append_right (by omega), hzl, Nat.sub_self]; rfl, by rw [upd_ne htR]; exact k7⟩
  rintro H6 ⟨s6, zs6, k6, hzl6, hz6⟩
  have hW6 : RowsW H6 RL [] f (gnF B G) A0.length := ⟨zs6, k6, by omega, fun k hk => by
    obtain ⟨a', ne, h1, h2⟩ := hz6 k (by omega)
    exact ⟨a', ne, h1, fun hm => (nomatch hm), fun _ => h2⟩⟩
  have e6D := s6 _ _ e5D
  have hRD : RL ≠ D := fun z => by
    rw [z, e5D] at hRL
    cases hRL
  have hRLH : H RL = none := by
    cases h : H RL with
    | none => rfl
    | some o =>
      have h3 := s13 _ _ h
      rw [hk5 _ _ hRD h3] at hRL
      cases hRL
  have hpos : ∀ p ∈ keysE R, 0 ≤ p ∧ p < (A0.length : Int) := fun p hp => by
    obtain ⟨e, he, rfl⟩ := List.mem_map.mp hp
    exact ⟨hout _ (hne _ (List.mem_map_of_mem he)), (gR.inn e he).2⟩
  refine ⟨D, .dK kvs, e6D, trivial, fun od2 => ?_⟩
  refine ⟨_, rfl, D, od2, rfl, .inl ⟨kvs, upd_same, ?_⟩⟩
  refine for_it walk_keys (fun (i : Nat) (σ : L2.St) (H' : Hp) => ∃ y6 : Option V, σ = [some (.ref b0), some (.ref gb), some (.ref ga), some (.int st), some (.ref a), some (.ref D), y6, some (.ref RL), none, none] ∧ H' D = some (.frz od2 (.dK kvs)) ∧ (∀ b o, b ≠ D → b ≠ RL → H6 b = some o → H' b = some o) ∧ RowsW H' RL (keysE (R.take i)) f (gnF B G) A0.length) ?_ ?_ ?_ ?_
  · exact ⟨_, rfl, upd_same, (fun b o ne _ h => by rw [upd_ne ne]; exact h), hW6.keep (D := D) (kvs := kvs) (od := od2) (.inl e6D) fun b o ne h => by rw [upd_ne ne]; exact h⟩
  · rintro i σ H' _ ⟨y6, rfl, e', _⟩
    exact e'
  · rintro i x σ H7 H7' hi ⟨y6, rfl, e7, hk7, hRw⟩ ⟨rfl, k, u, hku, rfl⟩
    obtain ⟨e, he, rfl, ou⟩ := hR.get i k u hku
    have heR := List.mem_of_getElem? he
    have hin := hpos e.1 (List.mem_map_of_mem heR)
    obtain ⟨gi, os, hgi, hos, hcase⟩ := hpt e.1 hin.1 hin.2
    obtain ⟨hg0, hg1, hgo⟩ := hcase.resolve_left fun h => hne e.1 (List.mem_map_of_mem heR) h.2
    obtain ⟨r, hr1, hr2⟩ := gn_at hBG hin.1 hgi hos hg0 hg1
    obtain ⟨xr, hxr, br, rfl, ebr⟩ := hxg.at hr1
    have old7 : ∀ {x : Addr} {l : List V}, H x = some (.tup l) → H7' x = some (.tup l) := fun {x l} h => hk7 _ _ (hDt (s13 _ _ h)) (fun z => by rw [z, hRLH] at h; cases h) (s6 _ _ (old h))
    have nRL : ∀ {x : Addr} {o : HO}, H5 x = some o → x ≠ RL := fun h z => by rw [z, hRL] at h; cases h
    obtain ⟨x, hat, t, rfl, et⟩ := SucW.at hx (show -1 ≤ e.1 by omega) hin.2
    have ex5 := hk5 _ _ (hDa ex) ex
    have ex7 := hk7 _ _ (hDa ex) (nRL ex5) (s6 _ _ ex5)
    have et5 := hk5 _ _ (hDt et) et
    have et7 := hk7 _ _ (hDt et) (nRL et5) (s6 _ _ et5)
    refine ⟨_, rfl, _, rfl, gb, _, _, _, rfl, rfl, sqt (old7 egb), atI_get hin.1 hxr, _, rfl, _, rfl, ga, _, _, _, rfl, rfl, sqt (old7 eg), atI_get hin.1 (map_get hgi), br, _, _, _, rfl, rfl, sqt (old7 ebr), atI_get hg0 (map_get hr2), ?_⟩
    refine ⟨_, rfl, _, rfl, a, xs, e.1, _, rfl, rfl, sqd ex7, hat, Nat.le_of_ble_eq_true rfl, fun t1 ht1 => ?_⟩
    obtain ⟨H8, e8, s8, k8⟩ := newH ht1 (.tup [V.int (gnF B G e.1), .ref t])
    rw [e8]
    refine ⟨Nat.le_of_ble_eq_true rfl, fun l1 hl1 => ?_⟩
    obtain ⟨H9, e9, s9, k9⟩ := newH hl1 (.lst [V.ref t1])
    rw [e9]
    have s79 := s8.trans s9
    have hRw9 : RowsW H9 RL (keysE (R.take i)) f (gnF B G) A0.length := hRw.keep (D := D) (kvs := kvs) (od := od2) (.inr e7) fun b o _ h => s79 _ _ h
    obtain ⟨zs9, k9R, hzl9, _⟩ := id hRw9
    obtain ⟨kk, hkk⟩ : ∃ kk : Nat, e.1 = (kk : Int) := ⟨e.1.toNat, by omega⟩
    have hlR : l1 ≠ RL := fun z => by
      obtain ⟨zs7, k7R, _⟩ := id hRw
      rw [z, s8 _ _ k7R] at hl1
      cases hl1
    refine ⟨_, rfl, _, rfl, RL, _, _, _, rfl, rfl, k9R, ixN_in hin.1 (by omega), ?_⟩
    have hset := hRw9.set (k := kk) (l := l1) (b := t1) (t := t) k9R (by omega) hlR k9 (by rw [← hkk]; exact s9 _ _ k8) (by rw [← hkk]; exact s79 _ _ et7)
    have hke : keysE (R.take (i + 1)) = keysE (R.take i) ++ [(kk : Int)] := by
      rw [List.take_add_one, he, keysE_app, ← hkk]
      rfl
    refine ⟨_, rfl, by rw [upd_ne hRD.symm]; exact s79 _ _ e7, (fun b o n1 n2 h => by rw [upd_ne n2]; exact s79 _ _ (hk7 b o n1 n2 h)), ?_⟩
    rw [hke, show e.1.toNat = kk by omega]
    exact hset
  rintro σ H7 ⟨y6, rfl, e7, hk7, hRw⟩
  rw [List.take_of_length_le (by omega)] at hRw
  refine ⟨e7, ?_⟩
  have hRw8 : RowsW (upd H7 D (.dK kvs)) RL (keysE R) f (gnF B G) A0.length := hRw.keep (D := D) (kvs := kvs) (od := od2) (.inr e7) fun b o ne h => by rw [upd_ne ne]; exact h
  have s8 : Same H (upd H7 D (.dK kvs)) := fun b o h => by
    have n1 : b ≠ D := fun z => hDold (z ▸ h)
    have n2 : b ≠ RL := fun z => by rw [z, hRLH] at h; cases h
    rw [upd_ne n1]
    exact hk7 b o n1 n2 (s6 _ _ (hk5 b o n1 (s13 _ _ h)))
  generalize upd H7 D (.dK kvs) = H8 at hRw8 s8 ⊢
  have N : Net f (keysE R) A0.length := ⟨hpos, hne, fun p hp x hx => hRch.2.2 p hp x hx⟩
  have hfl : ∀ p ∈ keysE R, (f p).length ≤ 500 := fun p hp => by
    have := nd_len 0 A0.length (f p) (hfnd p) fun x hx => by have := hpos x (hRch.2.2 p hp x hx); omega
    omega
  refine ⟨_, rfl, RL, keysE R, f, gnF B G, A0.length, rfl, hRw8.v, N, h400, hfl, fun u H9 s9 hu => ?_⟩
  have s19 := s8.trans s9
  refine ⟨_, rfl, rfl, _, rfl, ?_⟩
  rcases hu with ⟨p, rfl, kp, hc⟩ | ⟨rfl, hc⟩
  · refine ifF (decide_eq_false fun h => nomatch h) ?_
    refine ⟨_, rfl, _, rfl, p, _, _, _, rfl, rfl, sqd kp, VA_I st0 st1, ?_⟩
    exact q _ _ R s19 hRch (.inr ⟨hne, .inl ⟨rfl, hc⟩⟩)
  · refine ifT (decide_eq_true rfl) ?_
    exact q _ _ R s19 hRch (.inr ⟨hne, .inr ⟨rfl, hc⟩⟩)
end
end NL

set_option maxHeartbeats 4000000
namespace NL
open PySem PySem.Spec PyProof.Rows L2
theorem op_notIn_seqK {X : Cx} {K : PySem.W.Frag} (h : X.K = K) : OpR X (compareOp .NotIn) (rIn K true) := by
  subst h
  exact op_notIn_seq
theorem filt_t {o : Opt} {i : Nat} {a : Int} (f : Int → Bool) (h : o[i]? = some a) : (o.take (i + 1)).filter f = (o.take i).filter f ++ (if f a = true then [a] else []) := by
  rw [List.take_add_one, h, List.filter_append]
  congr 1
  show List.filter f [a] = _
  rw [List.filter_cons]
  rfl
def LA (n : Nat) (v : Int → Int) : List Int := (List.range n).map fun k : Nat => v (k : Int)
theorem LA_len (n : Nat) (v : Int → Int) : (LA n v).length = n := by unfold LA; rw [List.length_map, List.length_range]
theorem LA_at {n k : Nat} {v : Int → Int} (h : k < n) : (LA n v)[k]? = some (v (k : Int)) := by
  unfold LA
  rw [List.getElem?_map, List.getElem?_range h]
  rfl
theorem LA_I {n : Nat} {v : Int → Int} {p : Int} (h0 : 0 ≤ p) (h1 : p < n) : atI ((LA n v).map V.int) p = some (V.int (v p)) := by
  obtain ⟨k, rfl⟩ : ∃ k : Nat, p = (k : Int) := ⟨p.toNat, by omega⟩
  refine atI_nat ?_
  rw [List.getElem?_map, LA_at (by omega)]
  rfl
theorem LA_ext {n : Nat} {v u : Int → Int} (h : ∀ k : Nat, k < n → v (k : Int) = u (k : Int)) : LA n v = LA n u := by
  unfold LA
  exact List.map_congr_left fun k hk => h k (List.mem_range.mp hk)
theorem LA_set {n k : Nat} {v : Int → Int} {x : Int} (h : k < n) : (LA n v).set k x = LA n fun q => if q = (k : Int) then x else v q := by
  refine List.ext_getElem? fun i => ?_
  rw [List.getElem?_set]
  by_cases hi : k = i
  · subst hi
    rw [if_pos rfl, if_pos (by rw [LA_len]; omega), LA_at h, if_pos rfl]
  · rw [if_neg hi]
    by_cases hn : i < n
    · rw [LA_at hn, LA_at hn, if_neg (by omega)]
    · rw [List.getElem?_eq_none (by rw [LA_len]; omega), List.getElem?_eq_none (by rw [LA_len]; omega)]
/-- the levels up to m -/
def LvAt (H : Hp) (ll : Addr) (n m : Nat) (v : Nat → Int → Int) : Prop := ∃ zs, H ll = some (.lst zs) ∧ zs.length = m + 1 ∧ ∀ j, j ≤ m → ∃ a, a ≠ ll ∧ zs[j]? = some (.ref a) ∧ H a = some (.lst ((LA n (v j)).map V.int))
theorem LvAt.same {H H' : Hp} {ll : Addr} {n m : Nat} {v : Nat → Int → Int} (h : LvAt H ll n m v) (s : Same H H') : LvAt H' ll n m v := by
  obtain ⟨zs, h1, h2, h3⟩ := h
  refine ⟨zs, s _ _ h1, h2, fun j hj => ?_⟩
  obtain ⟨a, i1, i2, i3⟩ := h3 j hj
  exact ⟨a, i1, i2, s _ _ i3⟩
theorem atI_m1 {α : Type} {zs : List α} {m : Nat} {x : α} (hl : zs.length = m + 1) (h : zs[m]? = some x) : atI zs (-1) = some x := by
  have hne : zs ≠ [] := fun e => by rw [e] at hl; cases hl
  obtain ⟨ys, y, rfl⟩ : ∃ ys y, zs = ys ++ [y] := ⟨_, _, (List.dropLast_concat_getLast hne).symm⟩
  have hm : ys.length = m := by rw [List.length_append, List.length_singleton] at hl; omega
  rw [List.getElem?_append_right (by omega), hm, Nat.sub_self] at h
  rw [at_last]
  exact h
theorem chn_in {f : Int → List Int} {F : List Int} (hc : ∀ x ∈ F, ∀ a ∈ f x, a ∈ F) : ∀ {s t : Int} {r : List Int}, Chn f s r t → s ∈ F → t ∈ F
  | _, _, _, .nil, h => h
  | _, _, _, .cons m c, h => chn_in hc c (hc _ h _ m)
section
variable {P : Program} {w : World} {K : PySem.W.Frag} {mg : Str → Option Value} {base : Heap}
/-! ### _law_reached -/
def spRch : Sp := fun vs H Q _ => ∃ (v : V) (A : Ar) (g : Addr) (G : List Int) (st : Int), vs = [v, .ref g, .int st] ∧ ArIn H A v ∧ ArG A ∧ H g = some (.tup (G.map V.int)) ∧ StG A G ∧ 0 ≤ st ∧ st < A.length ∧
  ∀ (p : Addr) (F : List Int) H', Same H H' → H' p = some (.lst (F.map V.int)) → F.length ≤ 401 → (∀ x ∈ F, -1 ≤ x ∧ x < A.length) → (∀ R, RchR (scF A G) [st] R → ∀ x, x ∈ F ↔ x ∈ keysE R) → Q (.ref p) H'
theorem ok_law_reached (T : Txt K mg) : FnOk P w K mg base CX0 1 T.a_law_reached T.d_law_reached P_law_reached spRch := by
  refine T.F_law_reached.ok sc_law_reached (fun vs H Q E h => ?_) (fun cdv A outer s H vs Q E hr h => ?_)
  · obtain ⟨v, A, g, G, st, rfl, _⟩ := h
    rfl
  obtain ⟨v, A0, g, G, st, rfl, ⟨b0, xs, rfl, e0, hxs⟩, hG, eg, hS, st0, st1, q⟩ := h
  have hxl := hxs.1
  have h400 := hG.1
  have hf := sc_good (G := G) hG
  have hfnd := fun p => sc_nd (G := G) hG p
  have hpt := fun (p : Int) (h0 : 0 ≤ p) (h1 : p < (A0.length : Int)) => sc_pt (G := G) hS h0 h1
  have hout := fun (p : Int) (h : scF A0 G p ≠ []) => sc_out h
  generalize hfe : scF A0 G = f at *
  refine ⟨_, (pss_cons (ps_set (i := 3) sc_law_reached.nd rfl (Or.inr rfl) (pe_lst (pa_cons (pv 2) pa_nil)))
    (pss_cons (ps_for  PassesOwn.never rfl (pi_range1 (by rfl) T.z_range (pa_cons (pe_op op_add (pe_callB call_len_seq (by rfl) T.z_len PySem.boot_len (pa_cons (pv 0) pa_nil)) pe_int) pa_nil)) (pg_name (i := 4) sc_law_reached.nd rfl (Or.inl rfl))
    (pss_one (ps_if (PW.pt (pw_and (pt_cmpR op_lt (pv 4) (pe_callB call_len_seq (by rfl) T.z_len PySem.boot_len (pa_cons (pv 3) pa_nil)) (nomark _)) (pw_and (pt_cmpR op_ne (pe_ix ix_list (pv 3) (pv 4) (fun _ _ => rfl)) (pe_un un_neg pe_int) (nomark _)) (pw_and1 (pt_cmpR op_ge (pe_ix ix_tup (pv 1) (pe_ix ix_list (pv 3) (pv 4) (fun _ _ => rfl)) (fun _ _ => rfl)) pe_int (nomark _))))))
    (pss_one (ps_set (i := 3) sc_law_reached.nd rfl (Or.inr rfl) (pe_op op_cat (pv 3) (pe_lc (own := [("reply", 5)]) (g := (gName 5)) (tt := _) rfl sc_law_reached.nd (pi_tup (pe_ix ix_tup (pe_ix ix_tup (pv 0) (pe_ix ix_list (pv 3) (pv 4) (fun _ _ => rfl)) (fun _ _ => rfl)) (pe_ix ix_tup (pv 1) (pe_ix ix_list (pv 3) (pv 4) (fun _ _ => rfl)) (fun _ _ => rfl)) (fun _ _ => rfl))) (blkOk_by (N := N_law_reached) (sc := defScope s_law_reached) (by decide +kernel)) (fun _ _ _ _ _ => (pg_name (i := 5) sc_law_reached.nd rfl (Or.inl rfl))) (fun _ _ _ _ _ => (pts_one (pt_cmpR (op_notIn_seqK (K := K) rfl) (pv 5) (pv 3) (by rfl)))) (fun _ _ _ _ _ => (pv 5))))))
    pss_nil)))
    (pss_one (ps_ret (pv 3))))), ?_⟩
  refine ⟨_, rfl, Nat.le_of_ble_eq_true rfl, fun l0 hl0 => ?_⟩
  obtain ⟨H1, E1, s1, k1⟩ := newH hl0 (.lst [V.int st])
  rw [E1]
  have lenF : ∀ {F : List Int}, F.Nodup → (∀ x ∈ F, -1 ≤ x ∧ x < (A0.length : Int)) → F.length ≤ A0.length + 1 := fun {F} hd h => nd_len (-1) (A0.length + 1) F hd fun x hx => by
    have := h x hx
    omega
  refine ⟨_, rfl, b0, _, rfl, .inr (sqt (s1 _ _ e0)), _, _, rfl, rfl, _, rfl, by omega, by omega, ?_⟩
  refine for_range (lo := 0) (n := (((xs.length : Nat) : Int) + 2).toNat) (fun (j : Nat) (σ : L2.St) (H' : Hp) => ∃ (fl : Addr) (F : List Int) (y4 y5 : Option V), σ = [some (.ref b0), some (.ref g), some (.int st), some (.ref fl), y4, y5] ∧ Same H H' ∧ H' fl = some (.lst (F.map V.int)) ∧ F.Nodup ∧ (∀ x ∈ F, -1 ≤ x ∧ x < (A0.length : Int)) ∧ st ∈ F ∧ (∀ R, RchR f [st] R → ∀ x ∈ F, x ∈ keysE R) ∧ ∀ (i : Nat) (x : Int), i < j → F[i]? = some x → ∀ a ∈ f x, a ∈ F) ?_ ?_ ?_
  · exact ⟨l0, [st], none, none, rfl, s1, k1, List.nodup_cons.mpr ⟨fun h => (nomatch h), List.nodup_nil⟩, (fun x hx => by rw [List.mem_singleton.mp hx]; omega), List.mem_singleton.mpr rfl, (fun R hR x hx => by rw [List.mem_singleton.mp hx]; exact hR.2.1 st List.mem_cons_self), (fun i x hi => absurd hi (Nat.not_lt_zero i))⟩
  · rintro j σ H2 hj ⟨fl, F, y4, y5, rfl, s2, k2, hFd, hFi, hst, hFR, hcl⟩
    generalize hk : (0 : Int) + (j : Int) = k
    have hkj : k = (j : Int) := by omega
    clear hk
    subst hkj
    have hFl := lenF hFd hFi
    have same : (∀ x, F[j]? = some x → f x = []) → ∀ (i : Nat) (x : Int), i < j + 1 → F[i]? = some x → ∀ a ∈ f x, a ∈ F := fun hx i x hi hix a ha => by
      by_cases hij : i < j
      · exact hcl i x hij hix a ha
      · have : i = j := by omega
        subst this
        rw [hx x hix] at ha
        cases ha
    refine ⟨_, rfl, _, rfl, fl, _, rfl, .inl (sqd k2), _, _, rfl, rfl, _, rfl, ?_⟩
    by_cases hjF : j < F.length
    case neg =>
      refine ifF (decide_eq_false (by rw [List.length_map]; omega)) ?_
      exact iteF ⟨fl, F, _, _, rfl, s2, k2, hFd, hFi, hst, hFR, same fun x hx => absurd (List.getElem?_eq_some_iff.mp hx).1 hjF⟩
    refine ifT (decide_eq_true (by rw [List.length_map]; omega)) ?_
    have hx := List.getElem?_eq_getElem hjF
    generalize F[j] = x at hx
    have hxi := hFi x (List.mem_of_getElem? hx)
    refine ⟨_, rfl, _, rfl, fl, _, _, _, rfl, rfl, sqd k2, atI_nat (map_get hx), _, rfl, rfl, _, rfl, ?_⟩
    by_cases hx1 : x = -1
    · refine ifF (by rw [decide_eq_true (by rw [hx1])] <;> rfl) ?_
      refine iteF ⟨fl, F, _, _, rfl, s2, k2, hFd, hFi, hst, hFR, same fun y hy => ?_⟩
      rw [hx] at hy
      cases hy
      refine Classical.byContradiction fun hn => ?_
      have := hout x hn
      omega
    refine ifT (by rw [decide_eq_false (fun h => hx1 (V.int.inj h))] <;> rfl) ?_
    obtain ⟨gi, os, hgi, hos, hcase⟩ := hpt x (by omega) hxi.2
    obtain ⟨x1, hx1', b1, ys, rfl, e1, hys⟩ := hxs.at hos
    refine ⟨_, rfl, _, rfl, _, rfl, fl, _, _, _, rfl, rfl, sqd k2, atI_nat (map_get hx), g, _, _, _, rfl, rfl, sqt (s2 _ _ eg), atI_get (by omega) (map_get hgi), _, _, rfl, rfl, _, rfl, ?_⟩
    rcases hcase with ⟨hg1, hf0⟩ | ⟨hg0, hg1, hgo⟩
    · refine ifF (decide_eq_false (by omega)) ?_
      refine ⟨fl, F, _, _, rfl, s2, k2, hFd, hFi, hst, hFR, same fun y hy => ?_⟩
      rw [hx] at hy
      cases hy
      exact hf0
    refine ifT (decide_eq_true hg0) ?_
    obtain ⟨x2, hx2, bo, rfl, eo⟩ := hys.at hgo
    refine ⟨_, rfl, _, rfl, _, rfl, _, rfl, fl, _, _, _, rfl, rfl, sqd k2, atI_nat (map_get hx), b0, _, _, _, rfl, rfl, sqt (s2 _ _ e0), atI_get (by omega) hx1', ?_⟩
    refine ⟨_, rfl, _, rfl, _, rfl, fl, _, _, _, rfl, rfl, sqd k2, atI_nat (map_get hx), g, _, _, _, rfl, rfl, sqt (s2 _ _ eg), atI_get (by omega) (map_get hgi), b1, _, _, _, rfl, rfl, sqt (s2 _ _ e1), atI_get hg0 hx2, ?_⟩
    refine ⟨bo, rfl, ⟨_, sqt (s2 _ _ eo)⟩, fun D hD => ?_⟩
    have hfl401 : (f x).length ≤ 401 := by
      have := nd_len (-1) (A0.length + 1) (f x) (hfnd x) fun y hy => by have := hf.mem x y hy; omega
      omega
    refine lc_tup (K := K) (a := bo) (xs := (f x).map V.int) (fun (i : Nat) (H' : Hp) => Same H2 H' ∧ H' D = some (.lst ((((f x).take i).filter fun y => decide (y ∉ F)).map V.int))) ?_ ?_ ?_ ?_
    · exact ⟨same_new hD _, upd_same⟩
    · rintro i H' _ ⟨s3, _⟩
      exact sqt ((s2.trans s3) _ _ eo)
    · rintro i z H3 hz ⟨s3, k3⟩
      rw [List.getElem?_map] at hz
      obtain ⟨y, hy, rfl⟩ := Option.map_eq_some_iff.mp hz
      have hfs := filt_t (fun y => decide (y ∉ F)) hy
      refine ⟨rfl, ?_⟩
      refine ⟨_, rfl, _, rfl, fl, _, rfl, .inl (sqd (s3 _ _ k2)), rfl, flat_ints' F, _, rfl, ?_⟩
      by_cases hin : y ∈ F
      · rw [if_neg (by rw [decide_eq_false (fun h => h hin)]; exact Bool.false_ne_true), List.append_nil] at hfs
        refine ifF (by rw [notIn_int, decide_eq_true hin] <;> rfl) ⟨s3, ?_⟩
        rw [k3, hfs]
      · rw [if_pos (decide_eq_true hin)] at hfs
        refine ifT (by rw [notIn_int, decide_eq_false hin] <;> rfl) ?_
        refine ⟨_, rfl, _, k3, big' (by rw [List.length_map]; have := List.length_filter_le (fun y => decide (y ∉ F)) ((f x).take i); rw [List.length_take] at this; omega), same_put s3 hD, ?_⟩
        rw [upd_same, hfs, List.map_append]
        rfl
    rintro H3 ⟨s3, k3⟩
    rw [List.length_map, List.take_length] at k3
    have hf2 := List.length_filter_le (fun y => decide (y ∉ F)) (f x)
    refine ⟨fl, D, _, _, rfl, rfl, s3 _ _ k2, k3, big (by rw [List.length_map, List.length_map]; omega), fun np hnp => ?_⟩
    have s4 := same_new hnp (.lst (F.map V.int ++ ((f x).filter fun y => decide (y ∉ F)).map V.int))
    have hmem : ∀ y, y ∈ F ++ (f x).filter (fun y => decide (y ∉ F)) → y ∈ F ∨ y ∈ f x := fun y hy => by
      rcases List.mem_append.mp hy with hy | hy
      · exact .inl hy
      · exact .inr (List.mem_filter.mp hy).1
    have hxF := List.mem_of_getElem? hx
    refine ⟨np, F ++ (f x).filter (fun y => decide (y ∉ F)), _, _, rfl, s2.trans (s3.trans s4), by rw [upd_same, List.map_append], ?_, ?_, List.mem_append_left _ hst, ?_, ?_⟩
    · refine List.nodup_append.mpr ⟨hFd, (hfnd x).filter _, fun a ha b hb e => ?_⟩
      have := (List.mem_filter.mp hb).2
      exact of_decide_eq_true this (by rw [← e]; exact ha)
    · intro y hy
      rcases hmem y hy with hy | hy
      · exact hFi y hy
      · exact hf.mem x y hy
    · intro R hR y hy
      rcases hmem y hy with hy | hy
      · exact hFR R hR y hy
      · exact hR.2.2 x (hFR R hR x hxF) y hy
    · intro i y hi hiy a ha
      by_cases hij : i < j
      · rw [List.getElem?_append_left (by omega)] at hiy
        exact List.mem_append_left _ (hcl i y hij hiy a ha)
      · have : i = j := by omega
        subst this
        rw [List.getElem?_append_left hjF, hx] at hiy
        cases hiy
        by_cases haF : a ∈ F
        · exact List.mem_append_left _ haF
        · exact List.mem_append_right _ (List.mem_filter.mpr ⟨ha, decide_eq_true haF⟩)
  · rintro σ H2 ⟨fl, F, y4, y5, rfl, s2, k2, hFd, hFi, hst, hFR, hcl⟩
    have hFl := lenF hFd hFi
    have hclo : ∀ x ∈ F, ∀ a ∈ f x, a ∈ F := fun x hx => by
      obtain ⟨i, hi⟩ := List.getElem?_of_mem hx
      have := (List.getElem?_eq_some_iff.mp hi).1
      exact hcl i x (by omega) hi
    refine ⟨_, rfl, q fl F H2 s2 k2 (by omega) hFi fun R hR x => ⟨hFR R hR x, fun hx => ?_⟩⟩
    obtain ⟨e, he, rfl⟩ := List.mem_map.mp hx
    obtain ⟨s0, r, _, h2, h3⟩ := hR.1 e he
    rw [List.mem_singleton.mp h2] at h3
    exact chn_in hclo h3 hst
end
end NL

set_option maxHeartbeats 4000000
namespace NL
open PySem PySem.Spec PyProof.Rows L2
section
variable {P : Program} {w : World} {K : PySem.W.Frag} {mg : Str → Option Value} {base : Heap}
/-! ### _law_losses -/
def spLoss : Sp := fun vs H Q _ => ∃ (v gv : V) (A : Ar) (B : Pos') (ga fl : Addr) (G F : List Int), vs = [v, gv, .ref ga, .ref fl] ∧ ArIn H A v ∧ ArG A ∧ PosIn H B gv ∧ GnG A B ∧ H ga = some (.tup (G.map V.int)) ∧ StG A G ∧ H fl = some (.lst (F.map V.int)) ∧ Net (scF A G) F A.length ∧
  ∀ p H', Same H H' → LvAt H' p A.length (A.length + 1) (lv (scF A G) (gnF B G) F) → Q (.ref p) H'
theorem ok_law_losses (T : Txt K mg) : FnOk P w K mg base CX0 1 T.a_law_losses T.d_law_losses P_law_losses spLoss := by
  refine T.F_law_losses.ok sc_law_losses (fun vs H Q E h => ?_) (fun cdv A outer s H vs Q E hr h => ?_)
  · obtain ⟨v, gv, A, B, ga, fl, G, F, rfl, _⟩ := h
    rfl
  obtain ⟨v, gv, A0, B, ga, fl, G, F, rfl, ⟨b0, xa, rfl, e0, hxa⟩, hG, ⟨gb, xg, rfl, egb, hxg⟩, hBG, eg, hS, efl, N, q⟩ := h
  have hxl := hxa.1
  have h400 := hG.1
  have hfnd := fun p => sc_nd (G := G) hG p
  have hpt := fun (p : Int) (h0 : 0 ≤ p) (h1 : p < (A0.length : Int)) => sc_pt (G := G) hS h0 h1
  generalize hfe : scF A0 G = f at *
  generalize hge : gnF B G = g at *
  refine ⟨_, (pss_cons (ps_set (i := 4) sc_law_losses.nd rfl (Or.inr rfl) (pe_lst (pa_cons (pe_lc (own := [("position", 5)]) (g := (gName 5)) (tt := tYes) rfl sc_law_losses.nd (pi_tup (pv 0)) (blkOk_by (N := N_law_losses) (sc := defScope s_law_losses) (by decide +kernel)) (fun _ _ _ _ _ => (pg_name (i := 5) sc_law_losses.nd rfl (Or.inl rfl))) (fun _ _ _ _ _ => pts_nil) (fun _ _ _ _ _ => pe_int)) pa_nil)))
    (pss_cons (ps_for  PassesOwn.never rfl (pi_range1 (by rfl) T.z_range (pa_cons (pe_op op_add (pe_callB call_len_seq (by rfl) T.z_len PySem.boot_len (pa_cons (pv 0) pa_nil)) pe_int) pa_nil)) (pg_name (i := 6) sc_law_losses.nd rfl (Or.inl rfl))
    (pss_cons (ps_setLc (i := 7) (own := [("position", 5)]) (g := (gName 5)) (tt := tYes) rfl sc_law_losses.nd rfl rfl (sw_true rfl rfl rfl (by decide +kernel)) (pi_tup (pv 0)) (blkOk_by (N := N_law_losses) (sc := defScope s_law_losses) (by decide +kernel)) (fun _ _ _ _ _ => (pg_name (i := 5) sc_law_losses.nd rfl (Or.inl rfl))) (fun _ _ _ _ _ => pts_nil) (fun _ _ _ _ _ => pe_int))
    (pss_cons (ps_for  PassesOwn.never rfl (pi_list (pv 3)) (pg_name (i := 8) sc_law_losses.nd rfl (Or.inl rfl))
    (pss_cons (ps_set (i := 9) sc_law_losses.nd rfl (Or.inl rfl) (pe_ix ix_tup (pe_ix ix_tup (pv 1) (pv 8) (fun _ _ => rfl)) (pe_ix ix_tup (pv 2) (pv 8) (fun _ _ => rfl)) (fun _ _ => rfl)))
    (pss_one (ps_asg (pe_callB (call_max2 rfl) (by rfl) T.z_max (by decide +kernel) (pa_cons pe_int (pa_cons (pe_op op_sub (pe_callB (cr_max rfl) (by rfl) T.z_max (by decide +kernel) (pa_cons (pe_lc (own := [("reply", 10)]) (g := (gName 10)) (tt := tYes) rfl sc_law_losses.nd (pi_tup (pe_ix ix_tup (pe_ix ix_tup (pv 0) (pv 8) (fun _ _ => rfl)) (pe_ix ix_tup (pv 2) (pv 8) (fun _ _ => rfl)) (fun _ _ => rfl))) (blkOk_by (N := N_law_losses) (sc := defScope s_law_losses) (by decide +kernel)) (fun _ _ _ _ _ => (pg_name (i := 10) sc_law_losses.nd rfl (Or.inl rfl))) (fun _ _ _ _ _ => pts_nil) (fun _ _ _ _ _ => (pe_ix (ix_listK (K := K) rfl) (pe_ix (ix_listK (K := K) rfl) (pv 4) (pe_un un_neg pe_int) (fun _ _ => rfl)) (pv 10) (fun _ _ => rfl)))) pa_nil)) (pv 9)) pa_nil))) (pg_sub (pv 7) (pv 8) set_list)))))
    (pss_one (ps_expr (pe_bm PySem.F.plainAttrs_list PySem.F.slot_list_append PySem.F.type_list_append mt_append (pv 4) (pa_cons (pv 7) pa_nil)))))))
    (pss_one (ps_ret (pv 4))))), ?_⟩
  refine ⟨_, rfl, b0, rfl, ⟨_, sqt e0⟩, fun D hD => ?_⟩
  refine lc_tup (K := K) (a := b0) (xs := xa) (fun (j : Nat) (H' : Hp) => Same H H' ∧ H' D = some (.lst ((LA j fun _ => 0).map V.int))) ?_ ?_ ?_ ?_
  · exact ⟨same_new hD _, upd_same⟩
  · rintro j H' _ ⟨s1, _⟩
    exact sqt (s1 _ _ e0)
  · rintro j x H1 hx ⟨s1, k1⟩
    have hjl := (List.getElem?_eq_some_iff.mp hx).1
    refine ⟨rfl, yes_if ?_⟩
    refine ⟨_, k1, big' (by rw [List.length_map, LA_len]; omega), same_put s1 hD, ?_⟩
    rw [upd_same]
    unfold LA
    rw [List.range_succ, List.map_append, List.map_append]
    rfl
  rintro H1 ⟨s1, k1⟩
  rw [hxl] at k1
  refine ⟨Nat.le_of_ble_eq_true rfl, fun ll hll => ?_⟩
  obtain ⟨H2, E2, s2, k2⟩ := newH hll (.lst [V.ref D])
  rw [E2]
  have hllH : H ll = none := s1.free hll
  have hDl : D ≠ ll := fun z => by
    rw [z] at k1
    rw [k1] at hll
    cases hll
  have s12 := s1.trans s2
  refine ⟨_, rfl, b0, _, rfl, .inr (sqt (s12 _ _ e0)), _, _, rfl, rfl, _, rfl, by omega, by omega, ?_⟩
  refine for_range (lo := 0) (n := (((xa.length : Nat) : Int) + 1).toNat) (fun (i : Nat) (σ : L2.St) (H' : Hp) => ∃ (y5 y6 y7 y8 y9 y10 : Option V), σ = [some (.ref b0), some (.ref gb), some (.ref ga), some (.ref fl), some (.ref ll), y5, y6, y7, y8, y9, y10] ∧ Same H H' ∧ LvAt H' ll A0.length i (lv f g F)) ?_ ?_ ?_
  · exact ⟨none, none, none, none, none, none, rfl, s12, [V.ref D], k2, rfl, fun j hj => ⟨D, hDl, (by rw [show j = 0 by omega]; rfl), (by rw [show j = 0 by omega]; exact s2 _ _ k1)⟩⟩
  · rintro i σ H3 hi ⟨y5, y6, y7, y8, y9, y10, rfl, s3, hL⟩
    refine ⟨_, rfl, b0, rfl, ⟨_, sqt (s3 _ _ e0)⟩, fun D4 hD4 => ?_⟩
    refine lc_tup (K := K) (a := b0) (xs := xa) (fun (j : Nat) (H' : Hp) => Same H3 H' ∧ H' D4 = some (.lst ((LA j fun _ => 0).map V.int))) ?_ ?_ ?_ ?_
    · exact ⟨same_new hD4 _, upd_same⟩
    · rintro j H' _ ⟨s4, _⟩
      exact sqt ((s3.trans s4) _ _ e0)
    · rintro j x H4 hx ⟨s4, k4⟩
      have hjl := (List.getElem?_eq_some_iff.mp hx).1
      refine ⟨rfl, yes_if ?_⟩
      refine ⟨_, k4, big' (by rw [List.length_map, LA_len]; omega), same_put s4 hD4, ?_⟩
      rw [upd_same]
      unfold LA
      rw [List.range_succ, List.map_append, List.map_append]
      rfl
    rintro H4 ⟨s4, k4⟩
    rw [hxl] at k4
    have hD4H : H3 D4 = none := hD4
    refine ⟨_, rfl, fl, rfl, ⟨_, sqd ((s3.trans s4) _ _ efl)⟩, ?_⟩
    refine for_list (K := K) (a := fl) (xs := F.map V.int) (fun (j : Nat) (σ : L2.St) (H' : Hp) => ∃ (y5 y8 y9 y10 : Option V), σ = [some (.ref b0), some (.ref gb), some (.ref ga), some (.ref fl), some (.ref ll), y5, some (.int (0 + (i : Int))), some (.ref D4), y8, y9, y10] ∧ Same H3 H' ∧ H' D4 = some (.lst ((LA A0.length fun p => if p ∈ F.take j then lv f g F (i + 1) p else 0).map V.int))) ?_ ?_ ?_ ?_
    · refine ⟨_, _, _, _, rfl, s4, ?_⟩
      rw [k4]
      refine congrArg (fun l => some (HO.lst (List.map V.int l))) (LA_ext fun k _ => ?_)
      rw [List.take_zero, if_neg (fun h => nomatch h)]
    · rintro j σ H' _ ⟨y5, y8, y9, y10, rfl, s5, _⟩
      exact sqd ((s3.trans s5) _ _ efl)
    · rintro j x σ H5 hx ⟨y5, y8, y9, y10, rfl, s5, k5⟩
      rw [List.getElem?_map] at hx
      obtain ⟨p, hp, rfl⟩ := Option.map_eq_some_iff.mp hx
      have hpF := List.mem_of_getElem? hp
      have hin := N.inn p hpF
      obtain ⟨gi, os, hgi, hos, hcase⟩ := hpt p hin.1 hin.2
      obtain ⟨hg0, hg1, hgo⟩ := hcase.resolve_left fun h => N.ne p hpF h.2
      obtain ⟨r, hr1, hr2⟩ := gn_at hBG hin.1 hgi hos hg0 hg1
      rw [hge] at hr2
      obtain ⟨xr, hxr, br, rfl, ebr⟩ := hxg.at hr1
      obtain ⟨x1, hx1, b1, ys, rfl, e1, hys⟩ := hxa.at hos
      obtain ⟨x2, hx2, bo, rfl, eo⟩ := hys.at hgo
      have s35 := s3.trans s5
      have fc : (f p).length ≤ 400 := by
        have := nd_len 0 A0.length (f p) (hfnd p) fun x hx => by have := N.inn x (N.cl p hpF x hx); omega
        omega
      refine ⟨_, rfl, _, rfl, gb, _, _, _, rfl, rfl, sqt (s35 _ _ egb), atI_get hin.1 hxr, _, rfl, _, rfl, ga, _, _, _, rfl, rfl, sqt (s35 _ _ eg), atI_get hin.1 (map_get hgi), br, _, _, _, rfl, rfl, sqt (s35 _ _ ebr), atI_get hg0 (map_get hr2), ?_⟩
      obtain ⟨zs, kzs, hzl, hz⟩ := id (hL.same s5)
      obtain ⟨al, _, hal, kal⟩ := hz i (Nat.le_refl i)
      refine ⟨_, rfl, _, rfl, b0, _, _, _, rfl, rfl, sqt (s35 _ _ e0), atI_get hin.1 hx1, _, rfl, _, rfl, ga, _, _, _, rfl, rfl, sqt (s35 _ _ eg), atI_get hin.1 (map_get hgi), b1, _, _, _, rfl, rfl, sqt (s35 _ _ e1), atI_get hg0 hx2, bo, rfl, ⟨_, sqt (s35 _ _ eo)⟩, fun D6 hD6 => ?_⟩
      refine lc_tup (K := K) (a := bo) (xs := (f p).map V.int) (fun (m : Nat) (H' : Hp) => Same H5 H' ∧ H' D6 = some (.lst ((((f p).take m).map (lv f g F i)).map V.int))) ?_ ?_ ?_ ?_
      · exact ⟨same_new hD6 _, upd_same⟩
      · rintro m H' _ ⟨s6, _⟩
        exact sqt ((s35.trans s6) _ _ eo)
      · rintro m x H6 hx6 ⟨s6, k6⟩
        rw [List.getElem?_map] at hx6
        obtain ⟨y, hy, rfl⟩ := Option.map_eq_some_iff.mp hx6
        have hyi := N.inn y (N.cl p hpF y (List.mem_of_getElem? hy))
        refine ⟨rfl, yes_if ?_⟩
        refine ⟨_, rfl, _, rfl, ll, _, _, _, rfl, rfl, sqd (s6 _ _ kzs), atI_m1 hzl hal, _, rfl, al, _, _, _, rfl, rfl, sqd (s6 _ _ kal), LA_I hyi.1 hyi.2, _, k6, big' (by rw [List.length_map, List.length_map, List.length_take]; omega), same_put s6 hD6, ?_⟩
        rw [upd_same, List.take_add_one, hy, List.map_append, List.map_append]
        rfl
      rintro H6 ⟨s6, k6⟩
      rw [List.length_map, List.take_length] at k6
      refine ⟨D6, _, rfl, sqd k6, by rw [List.length_map]; exact List.length_pos_iff.mpr (N.ne p hpF), fun mx h1 h2 => ?_⟩
      obtain rfl := mxL_eq h1 h2
      refine ⟨_, rfl, _, _, rfl, rfl, 0, _, rfl, ?_⟩
      obtain ⟨kk, rfl⟩ : ∃ kk : Nat, p = (kk : Int) := ⟨p.toNat, by omega⟩
      refine ⟨_, rfl, _, rfl, D4, _, _, _, rfl, rfl, s6 _ _ k5, ixN_in (by omega) (by rw [List.length_map, LA_len]; omega), ?_⟩
      refine ⟨_, _, _, _, rfl, same_put (s5.trans s6) hD4H, ?_⟩
      rw [upd_same, Int.toNat_natCast, ← List.map_set, LA_set (by omega)]
      refine congrArg (fun l => some (HO.lst (List.map V.int l))) (LA_ext fun k _ => ?_)
      rw [List.take_add_one, hp]
      by_cases hk : (k : Int) = (kk : Int)
      · rw [if_pos hk, if_pos (List.mem_append_right _ (by rw [hk]; exact List.mem_singleton.mpr rfl)), hk, lv_in hpF]
        show (if mxL _ - g (kk : Int) > 0 then _ else _) = max 0 (vl f g (lv f g F i) (kk : Int))
        unfold vl
        split <;> omega
      · rw [if_neg hk]
        by_cases hm : (k : Int) ∈ F.take j
        · rw [if_pos hm, if_pos (List.mem_append_left _ hm)]
        · rw [if_neg hm, if_neg fun h => ?_]
          rcases List.mem_append.mp h with h | h
          · exact hm h
          · exact hk (List.mem_singleton.mp h)
    · rintro σ H5 ⟨y5, y8, y9, y10, rfl, s5, k5⟩
      rw [List.length_map, List.take_length] at k5
      have e5 : (LA A0.length fun p => if p ∈ F then lv f g F (i + 1) p else 0) = LA A0.length (lv f g F (i + 1)) := LA_ext fun k _ => by
        by_cases hm : (k : Int) ∈ F
        · rw [if_pos hm]
        · rw [if_neg hm, lv_out hm]
      rw [e5] at k5
      obtain ⟨zs, kzs, hzl, hz⟩ := hL.same s5
      have hDll : D4 ≠ ll := fun z => by
        obtain ⟨zs3, k3, _⟩ := hL
        rw [z, k3] at hD4H
        cases hD4H
      refine ⟨_, rfl, .inl ⟨rfl, _, sqd kzs⟩, _, rfl, ll, zs, _, rfl, rfl, kzs, big' (by omega), ?_⟩
      refine ⟨_, _, _, _, _, _, rfl, same_put (s3.trans s5) hllH, zs ++ [.ref D4], upd_same, by rw [List.length_append, hzl]; rfl, fun j hj => ?_⟩
      by_cases hji : j ≤ i
      · obtain ⟨a, n1, n2, n3⟩ := hz j hji
        exact ⟨a, n1, (by rw [List.getElem?_append_left (by omega)]; exact n2), (by rw [upd_ne n1]; exact n3)⟩
      · have : j = i + 1 := by omega
        subst this
        exact ⟨D4, hDll, (by rw [List.getElem?_append_right (by omega), hzl, Nat.sub_self]; rfl), (by rw [upd_ne hDll]; exact k5)⟩
  · rintro σ H3 ⟨y5, y6, y7, y8, y9, y10, rfl, s3, hL⟩
    rw [show (((xa.length : Nat) : Int) + 1).toNat = A0.length + 1 by omega] at hL
    exact ⟨_, rfl, q ll H3 s3 hL⟩
end
end NL

set_option maxHeartbeats 4000000
namespace NL
open PySem PySem.Spec PyProof.Rows L2
section
variable {P : Program} {w : World} {K : PySem.W.Frag} {mg : Str → Option Value} {base : Heap}
/-! ### _law_is_emptied -/
def spEmp : Sp := fun vs H Q _ => ∃ (v gv : V) (A : Ar) (B : Pos') (ga ll : Addr) (G F : List Int) (st c : Int), vs = [v, gv, .ref ga, .int st, .ref ll, .int c] ∧ ArIn H A v ∧ ArG A ∧ PosIn H B gv ∧ GnG A B ∧ H ga = some (.tup (G.map V.int)) ∧ StG A G ∧ Net (scF A G) F A.length ∧ LvAt H ll A.length (A.length + 1) (lv (scF A G) (gnF B G) F) ∧
  st ∈ F ∧ c = lv (scF A G) (gnF B G) F (A.length + 1) st - 1 ∧ 0 < lv (scF A G) (gnF B G) F (A.length + 1) st ∧ ∀ H', Same H H' → Q (.bl true) H'
theorem ok_law_is_emptied (T : Txt K mg) : FnOk P w K mg base CX0 1 T.a_law_is_emptied T.d_law_is_emptied P_law_is_emptied spEmp := by
  refine T.F_law_is_emptied.ok sc_law_is_emptied (fun vs H Q E h => ?_) (fun cdv A outer s H vs Q E hr h => ?_)
  · obtain ⟨v, gv, A, B, ga, ll, G, F, st, c, rfl, _⟩ := h
    rfl
  obtain ⟨v, gv, A0, B, ga, ll, G, F, st, c, rfl, ⟨b0, xa, rfl, e0, hxa⟩, hG, ⟨gb, xg, rfl, egb, hxg⟩, hBG, eg, hS, N, hL, hst, hc, hpos, q⟩ := h
  have hxl := hxa.1
  have h400 := hG.1
  have hfnd := fun p => sc_nd (G := G) hG p
  have hpt := fun (p : Int) (h0 : 0 ≤ p) (h1 : p < (A0.length : Int)) => sc_pt (G := G) hS h0 h1
  generalize hfe : scF A0 G = f at *
  generalize hge : gnF B G = g at *
  obtain ⟨zl, kzl, hzll, hzz⟩ := id hL
  refine ⟨_, (pss_cons (ps_set (i := 6) sc_law_is_emptied.nd rfl (Or.inl rfl) (pv 3))
    (pss_cons (ps_for  PassesOwn.never rfl (pi_range3 (by rfl) T.z_range (pa_cons (pe_op op_sub (pe_callB call_len_seq (by rfl) T.z_len PySem.boot_len (pa_cons (pv 4) pa_nil)) pe_int) (pa_cons (pe_un un_neg pe_int) (pa_cons (pe_un un_neg pe_int) pa_nil)))) (pg_name (i := 7) sc_law_is_emptied.nd rfl (Or.inr rfl))
    (pss_cons (ps_set (i := 5) sc_law_is_emptied.nd rfl (Or.inl rfl) (pe_op op_add (pv 5) (pe_ix ix_tup (pe_ix ix_tup (pv 1) (pv 6) (fun _ _ => rfl)) (pe_ix ix_tup (pv 2) (pv 6) (fun _ _ => rfl)) (fun _ _ => rfl))))
    (pss_cons (ps_if (pt_cmpR op_lt (pv 5) pe_int (nomark _))
    (pss_one (ps_ret pe_bl))
    pss_nil)
    (pss_cons (ps_set (i := 8) sc_law_is_emptied.nd rfl (Or.inr rfl) (pe_callB (cr_max rfl) (by rfl) T.z_max (by decide +kernel) (pa_cons (pe_lc (own := [("reply", 9)]) (g := (gName 9)) (tt := tYes) rfl sc_law_is_emptied.nd (pi_tup (pe_ix ix_tup (pe_ix ix_tup (pv 0) (pv 6) (fun _ _ => rfl)) (pe_ix ix_tup (pv 2) (pv 6) (fun _ _ => rfl)) (fun _ _ => rfl))) (blkOk_by (N := N_law_is_emptied) (sc := defScope s_law_is_emptied) (by decide +kernel)) (fun _ _ _ _ _ => (pg_name (i := 9) sc_law_is_emptied.nd rfl (Or.inl rfl))) (fun _ _ _ _ _ => pts_nil) (fun _ _ _ _ _ => (pe_ix (ix_listK (K := K) rfl) (pe_ix (ix_listK (K := K) rfl) (pv 4) (pv 7) (fun _ _ => rfl)) (pv 9) (fun _ _ => rfl)))) pa_nil)))
    (pss_one (ps_set (i := 6) sc_law_is_emptied.nd rfl (Or.inl rfl) (pe_ix ix_list (pe_lc (own := [("reply", 9)]) (g := (gName 9)) (tt := _) rfl sc_law_is_emptied.nd (pi_tup (pe_ix ix_tup (pe_ix ix_tup (pv 0) (pv 6) (fun _ _ => rfl)) (pe_ix ix_tup (pv 2) (pv 6) (fun _ _ => rfl)) (fun _ _ => rfl))) (blkOk_by (N := N_law_is_emptied) (sc := defScope s_law_is_emptied) (by decide +kernel)) (fun _ _ _ _ _ => (pg_name (i := 9) sc_law_is_emptied.nd rfl (Or.inl rfl))) (fun _ _ _ _ _ => (pts_one (pt_cmpR op_eq (pe_ix (ix_listK (K := K) rfl) (pe_ix (ix_listK (K := K) rfl) (pv 4) (pv 7) (fun _ _ => rfl)) (pv 9) (fun _ _ => rfl)) (pv 8) (nomark _)))) (fun _ _ _ _ _ => (pv 9))) pe_int (fun _ _ => rfl))))))))
    (pss_one (ps_ret pe_bl)))), ?_⟩
  refine ⟨_, rfl, ?_⟩
  refine ⟨_, rfl, ll, _, rfl, .inl (sqd kzl), _, _, rfl, rfl, _, rfl, _, rfl, ((zl.length : Nat) : Int) - 2, -1, -1, A0.length + 1, rfl, ?_, ?_⟩
  · rw [show A0.length + 1 = (((zl.length : Nat) : Int) - 2 - -1).toNat by omega]
    exact RgC.neg (by omega) (by omega) (by omega) (by omega)
  refine for_rangeC (lo := ((zl.length : Nat) : Int) - 2) (c := -1) (n := A0.length + 1) (fun (i : Nat) (σ : L2.St) (H' : Hp) => ∃ (at_ : Int) (y7 y8 y9 : Option V), σ = [some (.ref b0), some (.ref gb), some (.ref ga), some (.int st), some (.ref ll), some (.int (lv f g F (A0.length + 1 - i) at_ - 1)), some (.int at_), y7, y8, y9] ∧ Same H H' ∧ at_ ∈ F ∧ 0 < lv f g F (A0.length + 1 - i) at_) ?_ ?_ ?_
  · exact ⟨st, none, none, none, by rw [hc]; rfl, Same.refl H, hst, hpos⟩
  · rintro i σ H1 hi ⟨p, y7, y8, y9, rfl, s1, hpF, hp0⟩
    generalize hk : ((zl.length : Nat) : Int) - 2 + (i : Int) * -1 = k
    obtain ⟨j, hj1, hj2⟩ : ∃ j : Nat, k = (j : Int) ∧ A0.length + 1 - i = j + 1 := ⟨A0.length - i, by omega, by omega⟩
    clear hk
    subst hj1
    have hj3 : A0.length + 1 - (i + 1) = j := by omega
    rw [hj3]
    rw [hj2] at hp0 ⊢
    have hin := N.inn p hpF
    obtain ⟨gi, os, hgi, hos, hcase⟩ := hpt p hin.1 hin.2
    obtain ⟨hg0, hg1, hgo⟩ := hcase.resolve_left fun h => N.ne p hpF h.2
    obtain ⟨r, hr1, hr2⟩ := gn_at hBG hin.1 hgi hos hg0 hg1
    rw [hge] at hr2
    obtain ⟨xr, hxr, br, rfl, ebr⟩ := hxg.at hr1
    obtain ⟨x1, hx1, b1, ys, rfl, e1, hys⟩ := hxa.at hos
    obtain ⟨x2, hx2, bo, rfl, eo⟩ := hys.at hgo
    obtain ⟨al, _, hal, kal⟩ := hzz j (by omega)
    have fc : (f p).length ≤ 400 := by
      have := nd_len 0 A0.length (f p) (hfnd p) fun x hx => by have := N.inn x (N.cl p hpF x hx); omega
      omega
    have eLv := lv_in (f := f) (g := g) (M := F) (k := j) hpF
    have hvl : lv f g F (j + 1) p = vl f g (lv f g F j) p := by omega
    refine ⟨_, rfl, _, rfl, _, rfl, gb, _, _, _, rfl, rfl, sqt (s1 _ _ egb), atI_get hin.1 hxr, _, rfl, _, rfl, ga, _, _, _, rfl, rfl, sqt (s1 _ _ eg), atI_get hin.1 (map_get hgi), br, _, _, _, rfl, rfl, sqt (s1 _ _ ebr), atI_get hg0 (map_get hr2), _, _, rfl, rfl, ?_⟩
    dsimp only
    have hcr : lv f g F (j + 1) p - 1 + g p = mxL ((f p).map (lv f g F j)) - 1 := by
      rw [hvl]
      unfold vl
      omega
    rw [hcr]
    refine ⟨_, rfl, _, _, rfl, rfl, _, rfl, ?_⟩
    by_cases hlt : mxL ((f p).map (lv f g F j)) - 1 < 0
    · exact ifT (decide_eq_true hlt) (q H1 s1)
    refine ifF (decide_eq_false hlt) ?_
    have s1b := s1
    refine ⟨_, rfl, _, rfl, b0, _, _, _, rfl, rfl, sqt (s1 _ _ e0), atI_get hin.1 hx1, _, rfl, _, rfl, ga, _, _, _, rfl, rfl, sqt (s1 _ _ eg), atI_get hin.1 (map_get hgi), b1, _, _, _, rfl, rfl, sqt (s1 _ _ e1), atI_get hg0 hx2, bo, rfl, ⟨_, sqt (s1 _ _ eo)⟩, fun D6 hD6 => ?_⟩
    refine lc_tup (K := K) (a := bo) (xs := (f p).map V.int) (fun (m : Nat) (H' : Hp) => Same H1 H' ∧ H' D6 = some (.lst ((((f p).take m).map (lv f g F j)).map V.int))) ?_ ?_ ?_ ?_
    · exact ⟨same_new hD6 _, upd_same⟩
    · rintro m H' _ ⟨s6, _⟩
      exact sqt ((s1.trans s6) _ _ eo)
    · rintro m x H6 hx6 ⟨s6, k6⟩
      rw [List.getElem?_map] at hx6
      obtain ⟨y, hy, rfl⟩ := Option.map_eq_some_iff.mp hx6
      have hyi := N.inn y (N.cl p hpF y (List.mem_of_getElem? hy))
      have s16 := s1.trans s6
      refine ⟨rfl, yes_if ?_⟩
      refine ⟨_, rfl, _, rfl, ll, _, _, _, rfl, rfl, sqd (s16 _ _ kzl), atI_nat hal, _, rfl, al, _, _, _, rfl, rfl, sqd (s16 _ _ kal), LA_I hyi.1 hyi.2, _, k6, big' (by rw [List.length_map, List.length_map, List.length_take]; omega), same_put s6 hD6, ?_⟩
      rw [upd_same, List.take_add_one, hy, List.map_append, List.map_append]
      rfl
    rintro H6 ⟨s6, k6⟩
    rw [List.length_map, List.take_length] at k6
    refine ⟨D6, _, rfl, sqd k6, by rw [List.length_map]; exact List.length_pos_iff.mpr (N.ne p hpF), fun mx h1 h2 => ?_⟩
    obtain rfl := mxL_eq h1 h2
    generalize hmx : mxL ((f p).map (lv f g F j)) = mx at *
    have s16 := s1.trans s6
    refine ⟨_, rfl, _, rfl, b0, _, _, _, rfl, rfl, sqt (s16 _ _ e0), atI_get hin.1 hx1, _, rfl, _, rfl, ga, _, _, _, rfl, rfl, sqt (s16 _ _ eg), atI_get hin.1 (map_get hgi), b1, _, _, _, rfl, rfl, sqt (s16 _ _ e1), atI_get hg0 hx2, bo, rfl, ⟨_, sqt (s16 _ _ eo)⟩, fun D7 hD7 => ?_⟩
    refine lc_tup (K := K) (a := bo) (xs := (f p).map V.int) (fun (m : Nat) (H' : Hp) => Same H6 H' ∧ H' D7 = some (.lst ((((f p).take m).filter fun y => decide (lv f g F j y = mx)).map V.int))) ?_ ?_ ?_ ?_
    · exact ⟨same_new hD7 _, upd_same⟩
    · rintro m H' _ ⟨s7, _⟩
      exact sqt ((s16.trans s7) _ _ eo)
    · rintro m x H7 hx7 ⟨s7, k7⟩
      rw [List.getElem?_map] at hx7
      obtain ⟨y, hy, rfl⟩ := Option.map_eq_some_iff.mp hx7
      have hyi := N.inn y (N.cl p hpF y (List.mem_of_getElem? hy))
      have s17 := s16.trans s7
      have hfs := filt_t (fun y => decide (lv f g F j y = mx)) hy
      refine ⟨rfl, ?_⟩
      refine ⟨_, rfl, _, rfl, ll, _, _, _, rfl, rfl, sqd (s17 _ _ kzl), atI_nat hal, _, rfl, al, _, _, _, rfl, rfl, sqd (s17 _ _ kal), LA_I hyi.1 hyi.2, _, rfl, rfl, _, rfl, ?_⟩
      by_cases hy1 : lv f g F j y = mx
      · rw [if_pos (decide_eq_true hy1)] at hfs
        refine ifT (decide_eq_true (by rw [hy1])) ?_
        refine ⟨_, rfl, _, k7, big' (by rw [List.length_map]; have := List.length_filter_le (fun y => decide (lv f g F j y = mx)) ((f p).take m); rw [List.length_take] at this; omega), same_put s7 hD7, ?_⟩
        rw [upd_same, hfs, List.map_append]
        rfl
      · rw [if_neg (by rw [decide_eq_false hy1]; exact Bool.false_ne_true), List.append_nil] at hfs
        refine ifF (decide_eq_false fun h => hy1 (V.int.inj h)) ⟨s7, ?_⟩
        rw [k7, hfs]
    rintro H7 ⟨s7, k7⟩
    rw [List.length_map, List.take_length] at k7
    have hmem := mxL_mem (l := (f p).map (lv f g F j)) (fun e => N.ne p hpF (List.map_eq_nil_iff.mp e))
    rw [hmx] at hmem
    obtain ⟨y0, hy0, hy0e⟩ := List.mem_map.mp hmem
    have hne : ((f p).filter fun y => decide (lv f g F j y = mx)) ≠ [] := fun e => by
      have : y0 ∈ (f p).filter fun y => decide (lv f g F j y = mx) := List.mem_filter.mpr ⟨hy0, decide_eq_true hy0e⟩
      rw [e] at this
      cases this
    obtain ⟨y, yr, hyr⟩ : ∃ y r, ((f p).filter fun y => decide (lv f g F j y = mx)) = y :: r := by
      cases h : (f p).filter fun y => decide (lv f g F j y = mx) with
      | nil => exact absurd h hne
      | cons y r => exact ⟨y, r, rfl⟩
    have hy : y ∈ (f p).filter fun y => decide (lv f g F j y = mx) := by rw [hyr]; exact List.mem_cons_self
    obtain ⟨hyf, hyd⟩ := List.mem_filter.mp hy
    have hye := of_decide_eq_true hyd
    rw [hyr, List.map_cons] at k7
    refine ⟨D7, _, _, _, rfl, rfl, sqd k7, atI0, ?_⟩
    have hp1 : 0 < lv f g F j y := by omega
    clear hmem hy0e hne hyr hy hyd
    subst hye
    exact ⟨y, _, _, _, rfl, s16.trans s7, N.cl p hpF y hyf, hp1⟩
  · rintro σ H1 ⟨p, y7, y8, y9, rfl, s1, hpF, hp0⟩
    rw [Nat.sub_self] at hp0
    exact absurd hp0 (Int.lt_irrefl 0)
end
end NL

set_option maxHeartbeats 4000000
namespace NL
open PySem PySem.Spec PyProof.Rows L2
/-! ### a long way of losses -/
def loA (m : Nat) (t : Int) : Ar := ((List.range m).map fun k : Nat => [[(k : Int) + 1]]) ++ [[[t]]]
def loB (m : Nat) (loss last : Int) : Pos' := List.replicate m [-loss] ++ [[last]]
def loG (m : Nat) : List Int := List.replicate (m + 1) 0
theorem loA_len (m : Nat) (t : Int) : (loA m t).length = m + 1 := by
  unfold loA
  rw [List.length_append, List.length_map, List.length_range]
  rfl
theorem loB_len (m : Nat) (a b : Int) : (loB m a b).length = m + 1 := by
  unfold loB
  rw [List.length_append, List.length_replicate]
  rfl
theorem loA_lo {m k : Nat} {t : Int} (h : k < m) : (loA m t)[k]? = some [[(k : Int) + 1]] := by
  unfold loA
  rw [List.getElem?_append_left (by rw [List.length_map, List.length_range]; exact h), List.getElem?_map, List.getElem?_range h]
  rfl
theorem loA_hi {m : Nat} {t : Int} : (loA m t)[m]? = some [[t]] := by
  unfold loA
  rw [List.getElem?_append_right (by rw [List.length_map, List.length_range]; omega), List.length_map, List.length_range, Nat.sub_self]
  rfl
theorem loB_lo {m k : Nat} {a b : Int} (h : k < m) : (loB m a b)[k]? = some [-a] := by
  unfold loB
  rw [List.getElem?_append_left (by rw [List.length_replicate]; exact h), List.getElem?_replicate, if_pos h]
theorem loB_hi {m : Nat} {a b : Int} : (loB m a b)[m]? = some [b] := by
  unfold loB
  rw [List.getElem?_append_right (by rw [List.length_replicate]; omega), List.length_replicate, Nat.sub_self]
  rfl
theorem loG_at {m k : Nat} (h : k < m + 1) : (loG m)[k]? = some 0 := by
  unfold loG
  rw [List.getElem?_replicate, if_pos h]
theorem lo_at {m k : Nat} {t : Int} {os : Pos'} (h : (loA m t)[k]? = some os) : (k < m ∧ os = [[(k : Int) + 1]]) ∨ (k = m ∧ os = [[t]]) := by
  have hk := (List.getElem?_eq_some_iff.mp h).1
  rw [loA_len] at hk
  by_cases hm : k < m
  · rw [loA_lo hm] at h
    cases h
    exact .inl ⟨hm, rfl⟩
  · have : k = m := by omega
    subst this
    rw [loA_hi] at h
    cases h
    exact .inr ⟨rfl, rfl⟩
theorem lo_good {m : Nat} {t : Int} (hm : m ≤ 50) (t0 : 0 ≤ t) (t1 : t < (m : Int) + 1) : ArG (loA m t) := by
  refine ⟨by rw [loA_len]; omega, fun os hos => ?_⟩
  obtain ⟨k, hk⟩ := List.getElem?_of_mem hos
  rw [loA_len]
  rcases lo_at hk with ⟨h, rfl⟩ | ⟨h, rfl⟩
  · exact ⟨Nat.le_of_ble_eq_true rfl, fun o ho => by rw [List.mem_singleton.mp ho]; exact .one (by omega) (by omega)⟩
  · exact ⟨Nat.le_of_ble_eq_true rfl, fun o ho => by rw [List.mem_singleton.mp ho]; exact .one (by omega) (by omega)⟩
theorem lo_st {m : Nat} {t : Int} : StG (loA m t) (loG m) := by
  refine ⟨by rw [loA_len]; unfold loG; rw [List.length_replicate], fun k g os hg hos => .inr ?_⟩
  have hk := (List.getElem?_eq_some_iff.mp hos).1
  rw [loA_len] at hk
  rw [loG_at hk] at hg
  cases hg
  rcases lo_at hos with ⟨h, rfl⟩ | ⟨h, rfl⟩
  · exact ⟨Int.le_refl 0, by show (0 : Int) < 1; decide⟩
  · exact ⟨Int.le_refl 0, by show (0 : Int) < 1; decide⟩
theorem lo_gn {m : Nat} {t a b : Int} : GnG (loA m t) (loB m a b) := by
  refine ⟨by rw [loA_len, loB_len], fun k os r ho hr => ?_⟩
  rcases lo_at ho with ⟨h, rfl⟩ | ⟨h, rfl⟩
  · rw [loB_lo h] at hr
    cases hr
    rfl
  · subst h
    rw [loB_hi] at hr
    cases hr
    rfl
theorem lo_sc {m k : Nat} {t : Int} (h : k < m) : scF (loA m t) (loG m) (k : Int) = [(k : Int) + 1] := by
  unfold scF scO
  rw [if_pos (by omega), Int.toNat_natCast, loA_lo h, loG_at (by omega)]
  rfl
theorem lo_sct {m : Nat} {t : Int} : scF (loA m t) (loG m) (m : Int) = [t] := by
  unfold scF scO
  rw [if_pos (by omega), Int.toNat_natCast, loA_hi, loG_at (by omega)]
  rfl
theorem lo_g {m k : Nat} {a b : Int} (h : k < m) : gnF (loB m a b) (loG m) (k : Int) = -a := by
  unfold gnF
  rw [Int.toNat_natCast, loB_lo h, loG_at (by omega)]
  rfl
theorem lo_gt {m : Nat} {a b : Int} : gnF (loB m a b) (loG m) (m : Int) = b := by
  unfold gnF
  rw [Int.toNat_natCast, loB_hi, loG_at (by omega)]
  rfl
section
variable {m : Nat} {t a b : Int} {R : List Ent}
theorem lo_keys (t0 : 0 ≤ t) (t1 : t ≤ (m : Int)) (hR : RchR (scF (loA m t) (loG m)) [0] R) (x : Int) : x ∈ keysE R ↔ 0 ≤ x ∧ x ≤ (m : Int) := by
  constructor
  · intro hx
    obtain ⟨e, he, rfl⟩ := List.mem_map.mp hx
    obtain ⟨s0, r, _, h2, h3⟩ := hR.1 e he
    rw [List.mem_singleton.mp h2] at h3
    have cl : ∀ x ∈ (List.range (m + 1)).map (fun k : Nat => (k : Int)), ∀ y ∈ scF (loA m t) (loG m) x, y ∈ (List.range (m + 1)).map (fun k : Nat => (k : Int)) := by
      intro x hx y hy
      obtain ⟨k, hk, rfl⟩ := List.mem_map.mp hx
      have hk := List.mem_range.mp hk
      by_cases hm : k < m
      · rw [lo_sc hm] at hy
        rw [List.mem_singleton.mp hy]
        exact List.mem_map.mpr ⟨k + 1, List.mem_range.mpr (by omega), by omega⟩
      · have : k = m := by omega
        subst this
        rw [lo_sct] at hy
        rw [List.mem_singleton.mp hy]
        exact List.mem_map.mpr ⟨t.toNat, List.mem_range.mpr (by omega), by omega⟩
    have := chn_in cl h3 (List.mem_map.mpr ⟨0, List.mem_range.mpr (by omega), rfl⟩)
    obtain ⟨k, hk, e⟩ := List.mem_map.mp this
    have := List.mem_range.mp hk
    omega
  · rintro ⟨h0, h1⟩
    have go : ∀ k : Nat, k ≤ m → (k : Int) ∈ keysE R := by
      intro k
      induction k with
      | zero => intro _; exact hR.2.1 0 List.mem_cons_self
      | succ k ih =>
        intro hk
        have := hR.2.2 (k : Int) (ih (by omega)) ((k : Int) + 1) (by rw [lo_sc (by omega)]; exact List.mem_singleton.mpr rfl)
        exact this
    have := go x.toNat (by omega)
    rw [show ((x.toNat : Nat) : Int) = x by omega] at this
    exact this
theorem lo_up {v : Int → Int} {M : List Int} (hM : ∀ x : Int, x ∈ M ↔ 0 ≤ x ∧ x ≤ (m : Int)) (h : Pre (scF (loA m t) (loG m)) (gnF (loB m a b) (loG m)) M v) : ∀ k : Nat, k ≤ m → a * (k : Int) + v (k : Int) ≤ v 0
  | 0, _ => by rw [show ((0 : Nat) : Int) = 0 from rfl, Int.mul_zero]; omega
  | k + 1, hk => by
    have h1 := lo_up hM h k (by omega)
    have h2 := (h (k : Int) ((hM _).mpr (by omega))).2
    have h3 := vl_ge (f := scF (loA m t) (loG m)) (g := gnF (loB m a b) (loG m)) (v := v) (p := (k : Int)) (a := (k : Int) + 1) (by rw [lo_sc (by omega)]; exact List.mem_singleton.mpr rfl)
    rw [lo_g (by omega)] at h3
    rw [show ((k + 1 : Nat) : Int) = (k : Int) + 1 from rfl, Int.mul_add, Int.mul_one]
    omega
theorem lo_net (t0 : 0 ≤ t) (t1 : t ≤ (m : Int)) {M : List Int} (hM : ∀ x : Int, x ∈ M ↔ 0 ≤ x ∧ x ≤ (m : Int)) : Net (scF (loA m t) (loG m)) M (m + 1) := by
  refine ⟨fun p hp => ?_, fun p hp => ?_, fun p hp x hx => ?_⟩
  · have := (hM p).mp hp
    omega
  · have := (hM p).mp hp
    obtain ⟨k, rfl⟩ : ∃ k : Nat, p = (k : Int) := ⟨p.toNat, by omega⟩
    by_cases hm : k < m
    · rw [lo_sc hm]
      exact fun h => nomatch h
    · have : k = m := by omega
      subst this
      rw [lo_sct]
      exact fun h => nomatch h
  · have := (hM p).mp hp
    obtain ⟨k, rfl⟩ : ∃ k : Nat, p = (k : Int) := ⟨p.toNat, by omega⟩
    refine (hM x).mpr ?_
    by_cases hm : k < m
    · rw [lo_sc hm] at hx
      have := List.mem_singleton.mp hx
      omega
    · have : k = m := by omega
      subst this
      rw [lo_sct] at hx
      have := List.mem_singleton.mp hx
      omega
theorem lo_val (a0 : 0 ≤ a) (t0 : 0 ≤ t) (t1 : t ≤ (m : Int)) (hb : a * ((m : Int) - t) ≤ b) {M : List Int} (hM : ∀ x : Int, x ∈ M ↔ 0 ≤ x ∧ x ≤ (m : Int)) : Conv (scF (loA m t) (loG m)) (gnF (loB m a b) (loG m)) M (m + 1) ∧ lv (scF (loA m t) (loG m)) (gnF (loB m a b) (loG m)) M (m + 1) 0 = a * (m : Int) := by
  have N := lo_net t0 t1 hM
  have hP : Pre (scF (loA m t) (loG m)) (gnF (loB m a b) (loG m)) M fun p => a * ((m : Int) - p) := by
    intro p hp
    have hp' := (hM p).mp hp
    obtain ⟨k, rfl⟩ : ∃ k : Nat, p = (k : Int) := ⟨p.toNat, by omega⟩
    refine ⟨Int.mul_nonneg a0 (by omega), ?_⟩
    by_cases hm : k < m
    · unfold vl
      rw [lo_sc hm, lo_g hm]
      show a * ((m : Int) - ((k : Int) + 1)) - -a ≤ a * ((m : Int) - (k : Int))
      rw [show (m : Int) - (k : Int) = (m : Int) - ((k : Int) + 1) + 1 by omega, Int.mul_add, Int.mul_one]
      omega
    · have : k = m := by omega
      subst this
      unfold vl
      rw [lo_sct, lo_gt]
      show a * ((k : Int) - t) - b ≤ a * ((k : Int) - (k : Int))
      rw [Int.sub_self, Int.mul_zero]
      omega
  have hC := hP.conv N (k := m + 1) (by omega)
  refine ⟨hC, ?_⟩
  have h0 : (0 : Int) ∈ M := (hM 0).mpr (by omega)
  have h1 := lv_pre N hP (m + 1) 0 h0
  have h2 := lo_up hM hC.pre m (Nat.le_refl m)
  have h3 := lv_nn (f := scF (loA m t) (loG m)) (g := gnF (loB m a b) (loG m)) (M := M) (m + 1) (m : Int)
  rw [Int.sub_zero] at h1
  omega
theorem lo_none (a0 : 0 ≤ a) (hb : b < a * (m : Int)) {M : List Int} (hM : ∀ x : Int, x ∈ M ↔ 0 ≤ x ∧ x ≤ (m : Int)) (k : Nat) : ¬ Conv (scF (loA m 0) (loG m)) (gnF (loB m a b) (loG m)) M k := by
  intro hC
  have h1 := lo_up hM hC.pre m (Nat.le_refl m)
  have h2 := (hC.pre (m : Int) ((hM _).mpr (by omega))).2
  have h3 := vl_ge (f := scF (loA m 0) (loG m)) (g := gnF (loB m a b) (loG m)) (v := lv (scF (loA m 0) (loG m)) (gnF (loB m a b) (loG m)) M k) (p := (m : Int)) (a := 0) (by rw [lo_sct]; exact List.mem_singleton.mpr rfl)
  rw [lo_gt] at h3
  omega
end
end NL

set_option maxHeartbeats 4000000
namespace NL
open PySem PySem.Spec PyProof.Rows L2
theorem repZ_of {K : PySem.W.Frag} {l : Addr} {k : Int} {xs : List V} {H : Hp} {Q : VK} (h : H l = some (.tup xs)) (hne : xs ≠ []) (h0 : -1000 ≤ k) (h1 : k ≤ 1000) (hl : xs.length ≤ 1000) (q : ∀ p H', Same H H' → H' p = some (.tup (List.replicate k.toNat xs).flatten) → Q (.ref p) H') : rRepZ K (.ref l) (.int k) H Q := by
  refine ⟨l, k, xs, rfl, rfl, sqt h, hne, h0, h1, hl, fun e => ?_, fun _ p hp => q p _ (same_new hp _) upd_same⟩
  refine q l H (Same.refl H) ?_
  subst e
  rw [show (1 : Int).toNat = 1 from rfl, List.replicate_one, List.flatten_singleton]
  exact h
theorem flat_one {α : Type} (x : α) : ∀ n : Nat, (List.replicate n [x]).flatten = List.replicate n x
  | 0 => rfl
  | n + 1 => by rw [List.replicate_succ, List.flatten_cons, flat_one x n]; rfl
theorem rep_map (n : Nat) (x : Int) : List.replicate n (V.int x) = (List.replicate n x).map V.int := by rw [List.map_replicate]
section
variable {P : Program} {w : World} {K : PySem.W.Frag} {mg : Str → Option Value} {base : Heap}
def spLong : Sp := fun vs H Q _ => ∃ (d : Addr), vs = [.ref d] ∧ Dr H d ∧ ∀ H', Go d H H' → Q (.bl true) H'
theorem ok_law_is_long_right (T : Txt K mg) : FnOk P w K mg base CX0 4 T.a_law_is_long_right T.d_law_is_long_right P_law_is_long_right spLong := by
  have G_law_take := ok_law_take (P := P) (w := w) (base := base) T
  have G_law_same := ok_law_same (P := P) (w := w) (base := base) T 1
  have Gstrategy_credit := ok_strategy_credit (P := P) (w := w) (base := base) T
  refine T.F_law_is_long_right.ok sc_law_is_long_right (fun vs H Q E h => ?_) (fun cdv A outer s H vs Q E hr h => ?_)
  · obtain ⟨d, rfl, _⟩ := h
    rfl
  obtain ⟨d, rfl, hD, q⟩ := h
  refine ⟨_, (pss_cons (ps_set (i := 1) sc_law_is_long_right.nd rfl (Or.inl rfl) (pe_op op_add pe_int (pe_call G_law_take (hr.mono (by omega)) (by rfl) T.m_law_take T.F_law_take.kp T.b_law_take .nil pass0 (pa_cons (pv 0) (pa_cons pe_int pa_nil)))))
    (pss_cons (ps_set (i := 2) sc_law_is_long_right.nd rfl (Or.inl rfl) (pe_call G_law_take (hr.mono (by omega)) (by rfl) T.m_law_take T.F_law_take.kp T.b_law_take .nil pass0 (pa_cons (pv 0) (pa_cons pe_int pa_nil))))
    (pss_cons (ps_set (i := 3) sc_law_is_long_right.nd rfl (Or.inl rfl) (pe_op op_add pe_int (pe_call G_law_take (hr.mono (by omega)) (by rfl) T.m_law_take T.F_law_take.kp T.b_law_take .nil pass0 (pa_cons (pv 0) (pa_cons pe_int pa_nil)))))
    (pss_cons (ps_set (i := 4) sc_law_is_long_right.nd rfl (Or.inl rfl) (pe_lst (pa_cons (pe_tup (pa_cons (pe_op op_sub (pv 1) pe_int) pa_nil)) (pa_cons pe_int pa_nil))))
    (C8.pss_cut (ps_if (pt_cmpR op_gt (pv 2) pe_int (nomark _))
    (pss_cons (ps_set (i := 3) sc_law_is_long_right.nd rfl (Or.inl rfl) (pe_op op_add pe_int (pe_call G_law_take (hr.mono (by omega)) (by rfl) T.m_law_take T.F_law_take.kp T.b_law_take .nil pass0 (pa_cons (pv 0) (pa_cons (pe_op op_fdiv pe_int (pe_op op_sub (pv 1) pe_int)) pa_nil)))))
    (pss_one (ps_set (i := 4) sc_law_is_long_right.nd rfl (Or.inl rfl) (pe_lst (pa_cons (pe_tup (pa_cons pe_int pa_nil)) (pa_cons (pe_op op_sub (pe_op op_add (pe_op op_mul (pv 3) (pe_op op_sub (pv 1) pe_int)) pe_int) (pv 2)) pa_nil))))))
    pss_nil)
    (pss_cons (ps_set (i := 5) sc_law_is_long_right.nd rfl (Or.inl rfl) (pe_op op_catA (pe_callTy call_tuple_of (by rfl) T.z_tuple (by decide +kernel) (pa_cons (pe_lc (own := [("k", 6)]) (g := (gName 6)) (tt := tYes) rfl sc_law_is_long_right.nd (pi_range1 (by rfl) T.z_range (pa_cons (pe_op op_sub (pv 1) pe_int) pa_nil)) (blkOk_by (N := N_law_is_long_right) (sc := defScope s_law_is_long_right) (by decide +kernel)) (fun _ _ _ _ _ => (pg_name (i := 6) sc_law_is_long_right.nd rfl (Or.inl rfl))) (fun _ _ _ _ _ => pts_nil) (fun _ _ _ _ _ => (pe_tup (pa_cons (pe_tup (pa_cons (pe_op op_add (pv 6) pe_int) pa_nil)) pa_nil)))) pa_nil)) (pe_tup (pa_cons (pe_tup (pa_cons (pe_ix ix_list (pv 4) pe_int (fun _ _ => rfl)) pa_nil)) pa_nil))))
    (pss_cons (ps_set (i := 7) sc_law_is_long_right.nd rfl (Or.inl rfl) (pe_op op_catA (pe_op op_repZ (pe_tup (pa_cons (pe_tup (pa_cons (pe_un un_neg (pv 3)) pa_nil)) pa_nil)) (pe_op op_sub (pv 1) pe_int)) (pe_tup (pa_cons (pe_tup (pa_cons (pe_ix ix_list (pv 4) pe_int (fun _ _ => rfl)) pa_nil)) pa_nil))))
    (pss_cons (ps_set (i := 8) sc_law_is_long_right.nd rfl (Or.inl rfl) (pe_ix ix_list (pe_lst (pa_cons (pe_op op_mul (pv 3) (pe_op op_sub (pv 1) pe_int)) (pa_cons (pe_op op_mul (pv 3) (pe_op op_sub (pv 1) pe_int)) (pa_cons pe_non pa_nil)))) (pv 2) (fun _ _ => rfl)))
    (pss_one (ps_ret (pe_call G_law_same (hr.mono (by omega)) (by rfl) T.m_law_same T.F_law_same.kp T.b_law_same .nil pass0 (pa_cons (pe_call Gstrategy_credit (hr.mono (by omega)) (by rfl) T.mstrategy_credit T.Fstrategy_credit.kp T.bstrategy_credit .nil pass0 (pa_cons (pv 5) (pa_cons (pv 7) (pa_cons (pe_op op_repZ (pe_tup (pa_cons pe_int pa_nil)) (pv 1)) (pa_cons pe_int pa_nil))))) (pa_cons (pv 8) pa_nil))))))))))))), ?_⟩
  refine ⟨_, rfl, d, 44, rfl, hD, by decide, fun u1 H1 g1 a1 b1 => ⟨_, _, rfl, rfl, ?_⟩⟩
  dsimp only
  obtain ⟨m, hm1, hm2⟩ : ∃ m : Nat, (2 : Int) + u1 = (m : Int) + 1 ∧ 1 ≤ m ∧ m ≤ 44 := ⟨(u1 + 1).toNat, by omega, by omega⟩
  rw [hm1]
  refine ⟨_, rfl, d, 3, rfl, g1.dr, by decide, fun kind H2 g2 a2 b2 => ?_⟩
  refine ⟨_, rfl, d, 1000, rfl, g2.dr, by decide, fun u3 H3 g3 a3 b3 => ⟨_, _, rfl, rfl, ?_⟩⟩
  dsimp only
  generalize hls : (1 : Int) + u3 = ls
  have g13 := (g1.trans g2).trans g3
  refine ⟨_, rfl, _, _, rfl, rfl, Nat.le_of_ble_eq_true rfl, fun t1 ht1 => ?_⟩
  obtain ⟨H4, E4, s4, k4⟩ := newH ht1 (.tup [V.int ((m : Int) + 1 - 1)])
  rw [E4]
  rw [show (m : Int) + 1 - 1 = (m : Int) by omega] at k4
  refine ⟨Nat.le_of_ble_eq_true rfl, fun l1 hl1 => ?_⟩
  obtain ⟨H5, E5, s5, k5⟩ := newH hl1 (.lst [V.ref t1, V.int 0])
  rw [E5]
  have g15 := g13.trans (.same g13.dr (s4.trans s5))
  refine ⟨fun σ H' => ∃ (loss last t : Int) (ll tt : Addr), σ = [some (.ref d), some (.int ((m : Int) + 1)), some (.int kind), some (.int loss), some (.ref ll), none, none, none, none] ∧ Go d H H' ∧ H' ll = some (.lst [V.ref tt, V.int last]) ∧ H' tt = some (.tup [V.int t]) ∧ ll ≠ d ∧ 0 ≤ loss ∧ loss ≤ 1000 ∧ 0 ≤ t ∧ t ≤ (m : Int) ∧ ((kind ≠ 2 ∧ loss * ((m : Int) - t) ≤ last) ∨ (kind = 2 ∧ t = 0 ∧ last < loss * (m : Int))), ?_, ?_⟩
  · refine ⟨_, rfl, _, _, rfl, rfl, _, rfl, ?_⟩
    refine ite2 (fun z => ?_) (fun z => ?_)
    · have z' : 0 < kind := of_decide_eq_true z
      refine ⟨_, rfl, _, rfl, _, _, rfl, rfl, _, _, rfl, rfl, ⟨by omega, by omega⟩, d, _, rfl, g15.dr, ?_, fun u6 H6 g6 a6 b6 => ⟨_, _, rfl, rfl, ?_⟩⟩
      · rw [show (m : Int) + 1 - 1 = (m : Int) by omega]
        have := (Int.le_ediv_iff_mul_le (a := 1) (b := 1000) (c := (m : Int)) (by omega)).mpr (by omega)
        omega
      dsimp only
      have h1000 : 1000 / ((m : Int) + 1 - 1) ≤ 1000 := Int.ediv_le_self _ (by decide)
      generalize hl2 : (1 : Int) + u6 = l2
      refine ⟨Nat.le_of_ble_eq_true rfl, fun t7 ht7 => ?_⟩
      obtain ⟨H7, E7, s7, k7⟩ := newH ht7 (.tup [V.int 0])
      rw [E7]
      refine ⟨_, rfl, _, rfl, _, _, rfl, rfl, _, _, rfl, rfl, .inl ⟨by omega, by omega⟩, _, _, rfl, rfl, _, rfl, _, _, rfl, rfl, Nat.le_of_ble_eq_true rfl, fun l8 hl8 => ?_⟩
      rw [show (m : Int) + 1 - 1 = (m : Int) by omega]
      obtain ⟨H8, E8, s8, k8⟩ := newH hl8 (.lst [V.ref t7, V.int (l2 * (m : Int) + 1 - kind)])
      rw [E8]
      have g17 := (g15.trans g6).trans (.same g6.dr s7)
      refine ⟨l2, l2 * (m : Int) + 1 - kind, 0, l8, t7, rfl, g17.trans (.same g17.dr s8), k8, s8 _ _ k7, new_ne g17.dr hl8, by omega, by omega, Int.le_refl 0, by omega, ?_⟩
      rw [Int.sub_zero]
      by_cases hk : kind = 2
      · exact .inr ⟨hk, rfl, by omega⟩
      · exact .inl ⟨hk, by omega⟩
    · have z' : ¬ 0 < kind := fun h => z (decide_eq_true h)
      refine ⟨ls, 0, (m : Int), l1, t1, rfl, g15, k5, s5 _ _ k4, new_ne (g13.trans (.same g13.dr s4)).dr hl1, by omega, by omega, by omega, by omega, .inl ⟨by omega, by rw [Int.sub_self, Int.mul_zero]; omega⟩⟩
  rintro σ H6 ⟨loss, last, t, ll, tt, rfl, g6, kl, kt, nld, l0, l1', t0, t1', hcase⟩
  refine ⟨_, rfl, _, _, rfl, rfl, _, rfl, by omega, by omega, fun D hD => ?_⟩
  refine lc_range (lo := 0) (n := ((m : Int) + 1 - 1).toNat) (fun (j : Nat) (H' : Hp) => ∃ xs, Same H6 H' ∧ H' D = some (.lst xs) ∧ Each (PosIn H') ((List.range j).map fun k : Nat => [[(k : Int) + 1]]) xs) ?_ ?_ ?_
  · exact ⟨[], same_new hD _, upd_same, .nil⟩
  · rintro j H7 hj ⟨xs, s7, k7, hx7⟩
    generalize hk : (0 : Int) + (j : Int) = k
    have hkj : k = (j : Int) := by omega
    clear hk
    subst hkj
    have hxl := hx7.1
    rw [List.length_map, List.length_range] at hxl
    refine ⟨rfl, yes_if ?_⟩
    refine ⟨_, rfl, _, _, rfl, rfl, Nat.le_of_ble_eq_true rfl, fun ta hta => ?_⟩
    obtain ⟨H8, E8, s8, k8⟩ := newH hta (.tup [V.int ((j : Int) + 1)])
    rw [show upd H7 ta (.tup [V.int ((j : Int) + 1)]) = H8 from E8]
    refine ⟨Nat.le_of_ble_eq_true rfl, fun tb htb => ?_⟩
    obtain ⟨H9, E9, s9, k9⟩ := newH htb (.tup [V.ref ta])
    rw [E9]
    have s79 := s8.trans s9
    refine ⟨xs, s79 _ _ k7, big' (by omega), xs ++ [.ref tb], same_put (s7.trans s79) hD, upd_same, ?_⟩
    rw [List.range_succ, List.map_append]
    have hp : Tp H9 (upd H9 D (.lst (xs ++ [.ref tb]))) := tp_put Tp.refl (s79 _ _ k7)
    refine ((hx7.mono fun a x => PosIn.tp ((Tp.same s79).trans hp)).snoc ?_)
    exact ⟨tb, _, rfl, hp _ _ k9, .cons ⟨ta, rfl, hp _ _ (s9 _ _ k8)⟩ .nil⟩
  rintro H7 ⟨xs, s7, k7, hx7⟩
  rw [show ((m : Int) + 1 - 1).toNat = m by omega] at hx7
  have hxl := hx7.1
  rw [List.length_map, List.length_range] at hxl
  refine ⟨D, _, rfl, .inl ⟨sqd k7, fun tc htc => ?_⟩⟩
  obtain ⟨H8, E8, s8, k8⟩ := newH htc (.tup xs)
  rw [E8]
  have s68 := s7.trans s8
  refine ⟨_, rfl, ll, _, _, _, rfl, rfl, sqd (s68 _ _ kl), atI0, Nat.le_of_ble_eq_true rfl, fun t3 ht3 => ?_⟩
  obtain ⟨H9, E9, s9, k9⟩ := newH ht3 (.tup [V.ref tt])
  rw [E9]
  refine ⟨Nat.le_of_ble_eq_true rfl, fun t4 ht4 => ?_⟩
  obtain ⟨H10, E10, s10, k10⟩ := newH ht4 (.tup [V.ref t3])
  rw [E10]
  have s810 := s9.trans s10
  refine catA_of (s810 _ _ k8) k10 (by rw [hxl]; show m + 1 ≤ 1000; omega) fun pa H11 s11 k11 => ?_
  have s611 := (s68.trans s810).trans s11
  have hA : ArIn H11 (loA m t) (.ref pa) := ⟨pa, _, rfl, k11, (hx7.mono fun a x => PosIn.tp (Tp.same ((s8.trans s810).trans s11))).app (.cons ⟨t3, _, rfl, s11 _ _ (s10 _ _ k9), .cons ⟨tt, rfl, s611 _ _ kt⟩ .nil⟩ .nil)⟩
  refine ⟨_, rfl, _, rfl, Nat.le_of_ble_eq_true rfl, fun t5 ht5 => ?_⟩
  obtain ⟨H12, E12, s12, k12⟩ := newH ht5 (.tup [V.int (-loss)])
  rw [E12]
  refine ⟨Nat.le_of_ble_eq_true rfl, fun t6 ht6 => ?_⟩
  obtain ⟨H13, E13, s13, k13⟩ := newH ht6 (.tup [V.ref t5])
  rw [E13]
  refine ⟨_, rfl, _, _, rfl, rfl, repZ_of k13 (fun h => nomatch h) (by omega) (by omega) (Nat.le_of_ble_eq_true rfl) fun tr H14 s14 k14 => ?_⟩
  rw [show ((m : Int) + 1 - 1).toNat = m by omega, flat_one] at k14
  have s1114 := (s12.trans s13).trans s14
  refine ⟨_, rfl, ll, _, _, _, rfl, rfl, sqd (s1114 _ _ (s611 _ _ kl)), atI1, Nat.le_of_ble_eq_true rfl, fun t8 ht8 => ?_⟩
  obtain ⟨H15, E15, s15, k15⟩ := newH ht8 (.tup [V.int last])
  rw [E15]
  refine ⟨Nat.le_of_ble_eq_true rfl, fun t9 ht9 => ?_⟩
  obtain ⟨H16, E16, s16, k16⟩ := newH ht9 (.tup [V.ref t8])
  rw [E16]
  have s1416 := s15.trans s16
  refine catA_of (s1416 _ _ k14) k16 (by rw [List.length_replicate]; show m + 1 ≤ 1000; omega) fun pg H17 s17 k17 => ?_
  have s1117 := (s1114.trans s1416).trans s17
  have hB : PosIn H17 (loB m loss last) (.ref pg) := by
    refine ⟨pg, _, rfl, k17, Each.app ⟨by rw [List.length_replicate, List.length_replicate], fun k a x hx hy => ?_⟩ (.cons ⟨t8, rfl, s17 _ _ (s16 _ _ k15)⟩ .nil)⟩
    have h1 := List.eq_of_mem_replicate (List.mem_of_getElem? hx)
    have h2 := List.eq_of_mem_replicate (List.mem_of_getElem? hy)
    subst h1
    subst h2
    exact ⟨t5, rfl, s17 _ _ (s1416 _ _ (s14 _ _ (s13 _ _ k12)))⟩
  have hA17 := hA.tp (Tp.same s1117)
  refine ⟨_, rfl, _, rfl, _, _, rfl, rfl, _, _, rfl, rfl, .inl ⟨by omega, by omega⟩, _, rfl, _, rfl, _, _, rfl, rfl, _, _, rfl, rfl, .inl ⟨by omega, by omega⟩, Nat.le_of_ble_eq_true rfl, fun l9 hl9 => ?_⟩
  rw [show (m : Int) + 1 - 1 = (m : Int) by omega]
  obtain ⟨H18, E18, s18, k18⟩ := newH hl9 (.lst [V.int (loss * (m : Int)), V.int (loss * (m : Int)), V.non])
  rw [E18]
  obtain ⟨due, hat, hdue⟩ : ∃ due : V, atI [V.int (loss * (m : Int)), V.int (loss * (m : Int)), V.non] kind = some due ∧ ((kind ≠ 2 ∧ due = .int (loss * (m : Int))) ∨ (kind = 2 ∧ due = .non)) := by
    have hc : kind = 0 ∨ kind = 1 ∨ kind = 2 := by omega
    rcases hc with rfl | rfl | rfl
    · exact ⟨_, atI0, .inl ⟨by decide, rfl⟩⟩
    · exact ⟨_, atI1, .inl ⟨by decide, rfl⟩⟩
    · exact ⟨_, atI_nat (j := 2) rfl, .inr ⟨rfl, rfl⟩⟩
  refine ⟨_, rfl, l9, _, _, _, rfl, rfl, sqd k18, hat, ?_⟩
  refine ⟨_, rfl, _, rfl, Nat.le_of_ble_eq_true rfl, fun t10 ht10 => ?_⟩
  obtain ⟨H19, E19, s19, k19⟩ := newH ht10 (.tup [V.int 0])
  rw [E19]
  refine ⟨_, rfl, repZ_of k19 (fun h => nomatch h) (by omega) (by omega) (Nat.le_of_ble_eq_true rfl) fun ts H20 s20 k20 => ?_⟩
  rw [show ((m : Int) + 1).toNat = m + 1 by omega, flat_one, rep_map] at k20
  have s1720 := (s18.trans s19).trans s20
  have g20 := g6.trans (.same g6.dr (s611.trans (s1117.trans s1720)))
  refine ⟨.ref pa, .ref pg, loA m t, loB m loss last, ts, loG m, 0, rfl, hA17.tp (Tp.same s1720), lo_good (by omega) t0 (by omega), hB.tp (Tp.same s1720), lo_gn, k20, lo_st, Int.le_refl 0, by rw [loA_len]; omega, fun u H21 R s21 hR hu => ?_⟩
  refine ⟨_, rfl, ?_⟩
  have hM := lo_keys t0 t1' hR
  have N := lo_net t0 t1' hM
  rw [loA_len] at hu
  have hud : u = due := by
    rcases hu with ⟨_, p, hp, hf⟩ | ⟨_, ⟨rfl, hC⟩ | ⟨rfl, hC⟩⟩
    · exact absurd hf (N.ne p hp)
    · rcases hcase with ⟨h2, hb⟩ | ⟨h2, rfl, hb⟩
      · rw [(hdue.resolve_right fun h => h2 h.1).2, (lo_val l0 t0 t1' hb hM).2]
      · exact absurd hC (lo_none l0 hb hM _)
    · rcases hcase with ⟨h2, hb⟩ | ⟨h2, rfl, hb⟩
      · exact absurd (lo_val l0 t0 t1' hb hM).1 hC
      · rw [(hdue.resolve_left fun h => h.1 h2).2]
  subst hud
  refine ⟨u, u, rfl, ?_, q _ (g20.trans (.same g20.dr s21))⟩
  rcases hdue with ⟨_, rfl⟩ | ⟨_, rfl⟩
  · exact .inr (.inr (.inl ⟨_, rfl, rfl⟩))
  · exact .inl ⟨rfl, rfl⟩
end
end NL

set_option maxHeartbeats 4000000
namespace NL
open PySem PySem.Spec PyProof.Rows L2
theorem gnA {A : Ar} {B : Pos'} (hl : B.length = A.length) (h : ∀ (k : Nat) (os : Pos') (r : List Int), A[k]? = some os → B[k]? = some r → r.length = os.length) : GnG A B := ⟨hl, h⟩
section
variable {P : Program} {w : World} {K : PySem.W.Frag} {mg : Str → Option Value} {base : Heap}
/-! ### _law_goal, of a tank -/
def spGoal3 : Sp := fun vs H Q _ => ∃ (d : Addr) (v : V) (A : Ar), vs = [.ref d, v, .int 3] ∧ Dr H d ∧ ArIn H A v ∧ ArG A ∧
  ∀ p t (B : Pos') H', Go d H H' → H' p = some (.tup [.str "tank", .ref t]) → PosIn H' B (.ref t) → GnG A B → (∀ r ∈ B, ∀ x ∈ r, -3 ≤ x ∧ x ≤ 3) → Q (.ref p) H'
theorem ok_law_goal (T : Txt K mg) : FnOk P w K mg base CX0 3 T.a_law_goal T.d_law_goal P_law_goal spGoal3 := by
  have G_law_take := ok_law_take (P := P) (w := w) (base := base) T
  have G_law_some := ok_law_some (P := P) (w := w) (base := base) T
  refine T.F_law_goal.ok sc_law_goal (fun vs H Q E h => ?_) (fun cdv A outer s H vs Q E hr h => ?_)
  · obtain ⟨d, v, A, rfl, _⟩ := h
    rfl
  obtain ⟨d, v, A0, rfl, hD, ⟨b0, xs, rfl, e0, hxs⟩, hG, q⟩ := h
  have hxl := hxs.1
  have h400 := hG.1
  refine ⟨_, (pss_cons (ps_if (pt_cmpR op_eq (pv 2) pe_int (nomark _))
    (pss_one (ps_ret (pe_tup (pa_cons pe_str (pa_cons (pe_call G_law_some (hr.mono (by omega)) (by rfl) T.m_law_some T.F_law_some.kp T.b_law_some .nil pass0 (pa_cons (pv 0) (pa_cons (pv 1) (pa_cons pe_int pa_nil)))) pa_nil)))))
    pss_nil)
    (pss_cons (ps_if (pt_cmpR op_eq (pv 2) pe_int (nomark _))
    (pss_one (ps_ret (pe_tup (pa_cons pe_str (pa_cons (pe_call G_law_some (hr.mono (by omega)) (by rfl) T.m_law_some T.F_law_some.kp T.b_law_some .nil pass0 (pa_cons (pv 0) (pa_cons (pv 1) (pa_cons pe_int pa_nil)))) pa_nil)))))
    pss_nil)
    (pss_cons (ps_set (i := 3) sc_law_goal.nd rfl (Or.inr rfl) (pe_call G_law_take (hr.mono (by omega)) (by rfl) T.m_law_take T.F_law_take.kp T.b_law_take .nil pass0 (pa_cons (pv 0) (pa_cons pe_int pa_nil))))
    (pss_cons (ps_set (i := 4) sc_law_goal.nd rfl (Or.inr rfl) (pe_op op_add pe_int (pe_call G_law_take (hr.mono (by omega)) (by rfl) T.m_law_take T.F_law_take.kp T.b_law_take .nil pass0 (pa_cons (pv 0) (pa_cons pe_int pa_nil)))))
    (pss_cons (ps_if (pt_cmpR op_eq (pv 2) pe_int (nomark _))
    (pss_cons (ps_set (i := 5) sc_law_goal.nd rfl (Or.inr rfl) (pe_op op_add pe_int (pe_call G_law_take (hr.mono (by omega)) (by rfl) T.m_law_take T.F_law_take.kp T.b_law_take .nil pass0 (pa_cons (pv 0) (pa_cons pe_int pa_nil)))))
    (pss_one (ps_ret (pe_tup (pa_cons pe_str (pa_cons (pe_callTy call_tuple_of (by rfl) T.z_tuple (by decide +kernel) (pa_cons (pe_lc (own := [("k", 6)]) (g := (gName 6)) (tt := tYes) rfl sc_law_goal.nd (pi_range1 (by rfl) T.z_range (pa_cons (pe_callB call_len_seq (by rfl) T.z_len PySem.boot_len (pa_cons (pv 1) pa_nil)) pa_nil)) (blkOk_by (N := N_law_goal) (sc := defScope s_law_goal) (by decide +kernel)) (fun _ _ _ _ _ => (pg_name (i := 6) sc_law_goal.nd rfl (Or.inl rfl))) (fun _ _ _ _ _ => pts_nil) (fun _ _ _ _ _ => (pe_op op_mod (pe_callTy call_int1 (by rfl) T.z_int (by decide +kernel) (pa_cons (pe_op op_add (pe_op op_add (pv 3) (pe_op op_mul (pv 4) (pv 6))) (pe_op op_fdiv (pe_op op_mul (pv 6) (pv 6)) pe_int)) pa_nil)) (pv 5)))) pa_nil)) pa_nil))))))
    pss_nil)
    (pss_cons (ps_set (i := 7) sc_law_goal.nd rfl (Or.inl rfl) (pe_lst pa_nil))
    (pss_cons (ps_for  PassesOwn.never rfl (pi_range1 (by rfl) T.z_range (pa_cons (pe_callB call_len_seq (by rfl) T.z_len PySem.boot_len (pa_cons (pv 1) pa_nil)) pa_nil)) (pg_name (i := 6) sc_law_goal.nd rfl (Or.inr rfl))
    (pss_one (ps_expr (pe_bm PySem.F.plainAttrs_list PySem.F.slot_list_append PySem.F.type_list_append mt_append (pv 7) (pa_cons (pe_callTy call_tuple_of (by rfl) T.z_tuple (by decide +kernel) (pa_cons (pe_lc (own := [("j", 8)]) (g := (gName 8)) (tt := tYes) rfl sc_law_goal.nd (pi_range1 (by rfl) T.z_range (pa_cons (pe_callB call_len_seq (by rfl) T.z_len PySem.boot_len (pa_cons (pe_ix ix_tup (pv 1) (pv 6) (fun _ _ => rfl)) pa_nil)) pa_nil)) (blkOk_by (N := N_law_goal) (sc := defScope s_law_goal) (by decide +kernel)) (fun _ _ _ _ _ => (pg_name (i := 8) sc_law_goal.nd rfl (Or.inl rfl))) (fun _ _ _ _ _ => pts_nil) (fun _ _ _ _ _ => (pe_op op_sub (pe_op op_mod (pe_callTy call_int1 (by rfl) T.z_int (by decide +kernel) (pa_cons (pe_op op_add (pe_op op_add (pv 3) (pe_op op_mul (pv 4) (pv 6))) (pe_op op_mul pe_int (pv 8))) pa_nil)) pe_int) pe_int))) pa_nil)) pa_nil)))))
    (pss_one (ps_ret (pe_tup (pa_cons pe_str (pa_cons (pe_callTy call_tuple_of (by rfl) T.z_tuple (by decide +kernel) (pa_cons (pv 7) pa_nil)) pa_nil)))))))))))), ?_⟩
  have no : ∀ i : Int, i ≠ 3 → decide (V.int 3 = V.int i) = false := fun i h => decide_eq_false fun e => h (V.int.inj e).symm
  refine ⟨_, rfl, rfl, _, rfl, ifF (no 0 (by decide)) ?_⟩
  refine ⟨_, rfl, rfl, _, rfl, ifF (no 1 (by decide)) ?_⟩
  refine ⟨_, rfl, d, 900, rfl, hD, by decide, fun u1 H1 g1 a1 b1 => ?_⟩
  refine ⟨_, rfl, d, 900, rfl, g1.dr, by decide, fun u2 H2 g2 a2 b2 => ⟨_, _, rfl, rfl, ?_⟩⟩
  dsimp only
  generalize hst : (1 : Int) + u2 = stp
  have hs0 : 0 ≤ stp ∧ stp ≤ 900 := by omega
  refine ⟨_, rfl, rfl, _, rfl, ifF (no 2 (by decide)) ?_⟩
  refine ⟨Nat.zero_le _, fun gl hgl => ?_⟩
  obtain ⟨H3, E3, s3, k3⟩ := newH hgl (.lst [])
  rw [E3]
  have g12 := g1.trans g2
  have g13 := g12.trans (.same g12.dr s3)
  have nl := new_ne g12.dr hgl
  have hgl0 := g12.free hgl
  have e03 := g13.tp hD _ _ e0
  refine ⟨_, rfl, b0, _, rfl, .inr (sqt e03), _, rfl, by omega, by omega, ?_⟩
  refine for_range (lo := 0) (n := ((xs.length : Nat) : Int).toNat) (fun (j : Nat) (σ : L2.St) (H' : Hp) => ∃ (y6 y8 : Option V) (zs : List V) (B : Pos'), σ = [some (.ref d), some (.ref b0), some (.int 3), some (.int u1), some (.int stp), none, y6, some (.ref gl), y8] ∧ Go d H H' ∧ H' gl = some (.lst zs) ∧ Each (OptIn H') B zs ∧ B.length = j ∧ (∀ (k : Nat) os r, A0[k]? = some os → B[k]? = some r → r.length = os.length) ∧ ∀ r ∈ B, ∀ x ∈ r, -3 ≤ x ∧ x ≤ 3) ?_ ?_ ?_
  · exact ⟨none, none, [], [], rfl, g13, k3, .nil, rfl, fun k os r _ h => by simp at h, fun r h => nomatch h⟩
  · rintro j σ H4 hj ⟨y6, y8, zs, B, rfl, g4, k4, hzs, hB, hrow, hall⟩
    generalize hk : (0 : Int) + (j : Int) = k
    have hkj : k = (j : Int) := by omega
    clear hk
    subst hkj
    have hzl := hzs.1
    have e04 := g4.tp hD _ _ e0
    have hos := List.getElem?_eq_getElem (show j < A0.length by omega)
    generalize A0[j] = os at hos
    obtain ⟨x1, hx1, b1, ys, rfl, e1, hys⟩ := hxs.at hos
    have e14 := g4.tp hD _ _ e1
    have hyl := hys.1
    have h12 := (hG.2 os (List.mem_of_getElem? hos)).1
    refine ⟨_, rfl, .inl ⟨rfl, _, sqd k4⟩, ?_⟩
    refine ⟨_, rfl, _, rfl, b0, _, _, _, rfl, rfl, sqt e04, atI_nat hx1, b1, _, rfl, .inr (sqt e14), _, rfl, by omega, by omega, fun D hD4 => ?_⟩
    refine lc_range (lo := 0) (n := ((ys.length : Nat) : Int).toNat) (fun (i : Nat) (H' : Hp) => ∃ cs : List Int, Same H4 H' ∧ H' D = some (.lst (cs.map V.int)) ∧ cs.length = i ∧ ∀ c ∈ cs, -3 ≤ c ∧ c ≤ 3) ?_ ?_ ?_
    · exact ⟨[], same_new hD4 _, upd_same, rfl, fun c h => nomatch h⟩
    · rintro i H5 hi ⟨cs, s5, k5, hl5, hc5⟩
      generalize hk : (0 : Int) + (i : Int) = k
      have hki : k = (i : Int) := by omega
      clear hk
      subst hki
      refine ⟨rfl, yes_if ?_⟩
      refine ⟨_, rfl, _, rfl, _, rfl, _, _, rfl, rfl, .inl ⟨by omega, by omega⟩, _, _, rfl, rfl, _, rfl, _, _, rfl, rfl, .inl ⟨by decide, by decide⟩, _, _, rfl, rfl, .inl ⟨_, rfl, _, _, rfl, rfl, (show (0 : Int) < 7 by decide), _, _, rfl, rfl, ?_⟩⟩
      dsimp only
      have h1 := Int.emod_nonneg (u1 + stp * (j : Int) + 5 * (i : Int)) (show (7 : Int) ≠ 0 by decide)
      have h2 := Int.emod_lt_of_pos (u1 + stp * (j : Int) + 5 * (i : Int)) (show (0 : Int) < 7 by decide)
      generalize (u1 + stp * (j : Int) + 5 * (i : Int)) % 7 = cc at h1 h2 ⊢
      refine ⟨_, k5, big' (by rw [List.length_map]; omega), cs ++ [cc - 3], same_put s5 hD4, by rw [upd_same, List.map_append]; rfl, by rw [List.length_append, hl5]; rfl, fun c hc => ?_⟩
      rcases List.mem_append.mp hc with hc | hc
      · exact hc5 c hc
      · rw [List.mem_singleton.mp hc]
        omega
    rintro H5 ⟨cs, s5, k5, hl5, hc5⟩
    refine ⟨D, _, rfl, .inl ⟨sqd k5, fun tc htc => ?_⟩⟩
    obtain ⟨H6, E6, s6, k6⟩ := newH htc (.tup (cs.map V.int))
    rw [E6]
    have s46 := s5.trans s6
    have g6 := g4.trans (.same g4.dr s46)
    have kg := s46 _ _ k4
    refine ⟨gl, zs, _, rfl, rfl, kg, big' (by omega), ?_⟩
    have tpx : Tp H4 (upd H6 gl (.lst (zs ++ [.ref tc]))) := tp_put (Tp.same s46) kg
    have ntc : tc ≠ gl := fun e => by
      rw [e, s5 _ _ k4] at htc
      cases htc
    refine ⟨_, _, _, B ++ [cs], rfl, g6.put2 hgl0 nl, upd_same, ?_, by rw [List.length_append, hB]; rfl, fun k' os' r' ho' hr' => ?_, fun r' hr' x hx => ?_⟩
    · refine (hzs.mono fun o x => OptIn.tp tpx).snoc ⟨tc, rfl, ?_⟩
      rw [upd_ne ntc]
      exact k6
    · by_cases hkj : k' < j
      · rw [List.getElem?_append_left (by omega)] at hr'
        exact hrow k' os' r' ho' hr'
      · have hkl := (List.getElem?_eq_some_iff.mp hr').1
        rw [List.length_append, hB] at hkl
        have hkl : k' < j + 1 := hkl
        have : k' = j := by omega
        subst this
        rw [List.getElem?_append_right (by omega), hB, Nat.sub_self] at hr'
        cases hr'
        rw [hos] at ho'
        cases ho'
        omega
    · rcases List.mem_append.mp hr' with hr' | hr'
      · exact hall r' hr' x hx
      · rw [List.mem_singleton.mp hr'] at hx
        exact hc5 x hx
  · rintro σ H4 ⟨y6, y8, zs, B, rfl, g4, k4, hzs, hB, hrow, hall⟩
    refine ⟨_, rfl, gl, zs, rfl, .inl ⟨sqd k4, fun t ht => ?_⟩⟩
    obtain ⟨H5, E5, s5, k5⟩ := newH ht (.tup zs)
    rw [E5]
    refine ⟨Nat.le_of_ble_eq_true rfl, fun p hp => ?_⟩
    obtain ⟨H6, E6, s6, k6⟩ := newH hp (.tup [V.str "tank", .ref t])
    rw [E6]
    exact q p t B H6 (g4.trans (.same g4.dr (s5.trans s6))) k6 ⟨t, zs, rfl, s6 _ _ k5, hzs.mono fun a x => OptIn.tp (Tp.same (s5.trans s6))⟩ ⟨by omega, hrow⟩ hall
end
end NL

set_option maxHeartbeats 4000000
namespace NL
open PySem PySem.Spec PyProof.Rows L2
theorem lay_intsU : ∀ l : List Int, PyData.canLayAll0 (l.map PyData.int) = true ∧ PyData.depthAll (l.map PyData.int) ≤ 1
  | [] => ⟨rfl, Nat.zero_le _⟩
  | a :: r => by
    obtain ⟨h1, h2⟩ := lay_intsU r
    refine ⟨h1, ?_⟩
    show max (PyData.depth (PyData.int a)) (PyData.depthAll (r.map PyData.int)) ≤ 1
    exact Nat.max_le.mpr ⟨by simp [PyData.depth], h2⟩
theorem shaped_lstU (l : List Int) : SeqAt.shaped (.list (l.map PyData.int)) = true := by
  obtain ⟨h1, h2⟩ := lay_intsU l
  show (PyData.canLayAll0 (l.map PyData.int) && decide (PyData.depthAll (l.map PyData.int) + 1 ≤ 64)) = true
  rw [h1, decide_eq_true (by omega)]
  rfl
theorem eqv_intsU : ∀ l m : List Int, PyData.eqvAll (l.map PyData.int) (m.map PyData.int) = decide (l = m)
  | [], [] => rfl
  | [], b :: m => rfl
  | a :: l, [] => rfl
  | a :: l, b :: m => by
    show ((a == b) && PyData.eqvAll (l.map PyData.int) (m.map PyData.int)) = _
    rw [eqv_intsU l m]
    by_cases h1 : a = b
    · subst h1
      by_cases h2 : l = m
      · subst h2
        simp
      · rw [decide_eq_false h2, Bool.and_false, decide_eq_false (fun h => h2 (List.cons.inj h).2)]
    · rw [beq_eq_false_iff_ne.mpr h1, Bool.false_and, decide_eq_false (fun h => h1 (List.cons.inj h).1)]
theorem LA_inj {n : Nat} {v u : Int → Int} (h : LA n v = LA n u) (k : Nat) (hk : k < n) : v (k : Int) = u (k : Int) := by
  have := LA_at (v := v) hk
  rw [h, LA_at hk] at this
  exact (Option.some.inj this).symm
theorem atI_m2 {α : Type} {zs : List α} {m : Nat} {x : α} (hl : zs.length = m + 2) (h : zs[m]? = some x) : atI zs (-2) = some x := by
  unfold atI
  rw [show ixN zs.length (-2) = some m by
    unfold ixN
    rw [if_neg (by decide), if_pos (by omega), hl]
    congr 1
    omega]
  exact h
def spLaw (K : PySem.W.Frag) : Sp := fun vs H Q _ => ∃ (a : Addr) (ns : List Int), vs = [.ref a] ∧ SqL K H a (ns.map V.int) ∧ ns.length ≤ 63 ∧ ∀ H', Q (.bl true) H'
section
variable {P : Program} {w : World} {K : PySem.W.Frag} {mg : Str → Option Value} {base : Heap}
theorem ok_law (T : Txt K mg) : FnOk P w K mg base CX0 5 T.alaw T.dlaw Plaw (spLaw K) := by
  have G_law_draws := ok_law_draws (P := P) (w := w) (base := base) T
  have G_law_take := ok_law_take (P := P) (w := w) (base := base) T
  have G_law_arena := ok_law_arena (P := P) (w := w) (base := base) T
  have G_law_goal := ok_law_goal (P := P) (w := w) (base := base) T
  have G_law_strategy := ok_law_strategy (P := P) (w := w) (base := base) T
  have G_law_is_long_right := ok_law_is_long_right (P := P) (w := w) (base := base) T
  have G_law_reached := ok_law_reached (P := P) (w := w) (base := base) T
  have G_law_losses := ok_law_losses (P := P) (w := w) (base := base) T
  have G_law_is_emptied := ok_law_is_emptied (P := P) (w := w) (base := base) T
  have G_law_same := ok_law_same (P := P) (w := w) (base := base) T 1
  have Gstrategy_credit := ok_strategy_credit (P := P) (w := w) (base := base) T
  refine T.Flaw.ok sclaw (fun vs H Q E h => ?_) (fun cdv A outer s H vs Q E hr h => ?_)
  · obtain ⟨a, ns, rfl, _⟩ := h
    rfl
  obtain ⟨a, ns, rfl, hSq, hl, q⟩ := h
  refine ⟨_, (pss_cons (ps_set (i := 1) sclaw.nd rfl (Or.inl rfl) (pe_call G_law_draws (hr.mono (by omega)) (by rfl) T.m_law_draws T.F_law_draws.kp T.b_law_draws .nil pass0 (pa_cons (pv 0) (pa_cons pe_int pa_nil))))
    (pss_cons (ps_set (i := 2) sclaw.nd rfl (Or.inl rfl) (pe_call G_law_arena (hr.mono (by omega)) (by rfl) T.m_law_arena T.F_law_arena.kp T.b_law_arena .nil pass0 (pa_cons (pv 1) (pa_cons pe_int pa_nil))))
    (pss_cons (ps_if (PW.pt (pw_and (pt_cmpR op_eq (pe_call G_law_take (hr.mono (by omega)) (by rfl) T.m_law_take T.F_law_take.kp T.b_law_take .nil pass0 (pa_cons (pv 1) (pa_cons pe_int pa_nil))) pe_int (nomark _)) (pw_and1 (pt_not (pt_val (pe_call G_law_is_long_right (hr.mono (by omega)) (by rfl) T.m_law_is_long_right T.F_law_is_long_right.kp T.b_law_is_long_right .nil pass0 (pa_cons (pv 1) pa_nil)))))))
    (pss_one (ps_ret pe_bl))
    pss_nil)
    (pss_cons (ps_set (i := 3) sclaw.nd rfl (Or.inr rfl) (pe_ix ix_list (pe_lst (pa_cons pe_int (pa_cons pe_int (pa_cons pe_int (pa_cons pe_int pa_nil))))) (pe_call G_law_take (hr.mono (by omega)) (by rfl) T.m_law_take T.F_law_take.kp T.b_law_take .nil pass0 (pa_cons (pv 1) (pa_cons pe_int pa_nil))) (fun _ _ => rfl)))
    (pss_cons (ps_set (i := 4) sclaw.nd rfl (Or.inl rfl) (pe_callTy call_tuple_of (by rfl) T.z_tuple (by decide +kernel) (pa_cons (pe_lc (own := [("row", 6)]) (g := (gName 6)) (tt := tYes) rfl sclaw.nd (pi_tup (pe_ix ix_tup (pe_call G_law_goal (hr.mono (by omega)) (by rfl) T.m_law_goal T.F_law_goal.kp T.b_law_goal .nil pass0 (pa_cons (pv 1) (pa_cons (pv 2) (pa_cons pe_int pa_nil)))) pe_int (fun _ _ => rfl))) (blkOk_by (N := Nlaw) (sc := defScope slaw) (by decide +kernel)) (fun _ _ _ _ _ => (pg_name (i := 6) sclaw.nd rfl (Or.inl rfl))) (fun _ _ _ _ _ => pts_nil) (fun _ _ _ _ _ => (pe_callTy (call_tuple_ofK (K := K) rfl) (by rfl) T.z_tuple (by decide +kernel) (pa_cons (pe_lc (own := [("gain", 5)]) (g := (gName 5)) (tt := tYes) rfl sclaw.nd (pi_tupK (K := K) rfl (pv 6)) (blkOk_by (by rfl)) (fun _ _ _ _ _ => (pg_name (i := 5) sclaw.nd rfl (Or.inl rfl))) (fun _ _ _ _ _ => pts_nil) (fun _ _ _ _ _ => (pe_op op_mul (pv 3) (pv 5)))) pa_nil)))) pa_nil)))
    (pss_cons (ps_for  PassesOwn.never rfl (pi_list (pe_lst (pa_cons (pe_call G_law_strategy (hr.mono (by omega)) (by rfl) T.m_law_strategy T.F_law_strategy.kp T.b_law_strategy .nil pass0 (pa_cons (pv 1) (pa_cons (pv 2) pa_nil))) (pa_cons (pe_call G_law_strategy (hr.mono (by omega)) (by rfl) T.m_law_strategy T.F_law_strategy.kp T.b_law_strategy .nil pass0 (pa_cons (pv 1) (pa_cons (pv 2) pa_nil))) pa_nil)))) (pg_name (i := 7) sclaw.nd rfl (Or.inr rfl))
    (pss_cons (ps_set (i := 8) sclaw.nd rfl (Or.inl rfl) (pe_ix ix_list (pe_lst (pa_cons (pe_callB (call_min2 rfl) (by rfl) T.z_min (by decide +kernel) (pa_cons pe_int (pa_cons (pe_callB call_len_seq (by rfl) T.z_len PySem.boot_len (pa_cons (pv 2) pa_nil)) pa_nil))) (pa_cons pe_int pa_nil))) (pe_callTy call_int1 (by rfl) T.z_int (by decide +kernel) (pa_cons (pe_cmpR op_gt (pe_callB call_len_seq (by rfl) T.z_len PySem.boot_len (pa_cons (pv 2) pa_nil)) pe_int (nomark _)) pa_nil)) (fun _ _ => rfl)))
    (pss_one (ps_for  PassesOwn.never rfl (pi_range1 (by rfl) T.z_range (pa_cons (pv 8) pa_nil)) (pg_name (i := 9) sclaw.nd rfl (Or.inl rfl))
    (pss_cons (ps_set (i := 10) sclaw.nd rfl (Or.inl rfl) (pe_op op_fdiv (pe_op op_mul (pv 9) (pe_callB call_len_seq (by rfl) T.z_len PySem.boot_len (pa_cons (pv 2) pa_nil))) (pv 8)))
    (pss_cons (ps_set (i := 11) sclaw.nd rfl (Or.inl rfl) (pe_call Gstrategy_credit (hr.mono (by omega)) (by rfl) T.mstrategy_credit T.Fstrategy_credit.kp T.bstrategy_credit .nil pass0 (pa_cons (pv 2) (pa_cons (pv 4) (pa_cons (pv 7) (pa_cons (pv 10) pa_nil))))))
    (pss_cons (ps_set (i := 12) sclaw.nd rfl (Or.inl rfl) (pe_call G_law_reached (hr.mono (by omega)) (by rfl) T.m_law_reached T.F_law_reached.kp T.b_law_reached .nil pass0 (pa_cons (pv 2) (pa_cons (pv 7) (pa_cons (pv 10) pa_nil)))))
    (pss_cons (ps_set (i := 13) sclaw.nd rfl (Or.inl rfl) pe_non)
    (C8.pss_cut (ps_if (pt_cmpR op_eq (pe_callB call_len_seq (by rfl) T.z_len PySem.boot_len (pa_cons (pe_lc (own := [("at", 14)]) (g := (gName 14)) (tt := _) rfl sclaw.nd (pi_list (pv 12)) (blkOk_by (N := Nlaw) (sc := defScope slaw) (by decide +kernel)) (fun _ _ _ _ _ => (pg_name (i := 14) sclaw.nd rfl (Or.inl rfl))) (fun _ _ _ _ _ => (pts_one (PW.pt (pw_or (pt_cmpR op_eq (pv 14) (pe_un un_neg pe_int) (nomark _)) (pw_or1 (pt_cmpR op_eq (pe_ix (ix_tupK (K := K) rfl) (pv 7) (pv 14) (fun _ _ => rfl)) (pe_un un_neg pe_int) (nomark _))))))) (fun _ _ _ _ _ => (pv 14))) pa_nil)) pe_int (nomark _))
    (pss_cons (ps_set (i := 15) sclaw.nd rfl (Or.inl rfl) (pe_call G_law_losses (hr.mono (by omega)) (by rfl) T.m_law_losses T.F_law_losses.kp T.b_law_losses .nil pass0 (pa_cons (pv 2) (pa_cons (pv 4) (pa_cons (pv 7) (pa_cons (pv 12) pa_nil))))))
    (pss_one (ps_if (pt_cmpR (op_eqD hr.units) (pe_ix ix_list (pv 15) (pe_un un_neg pe_int) (fun _ _ => rfl)) (pe_ix ix_list (pv 15) (pe_un un_neg pe_int) (fun _ _ => rfl)) (nomark _))
    (pss_one (ps_set (i := 13) sclaw.nd rfl (Or.inl rfl) (pe_ix ix_list (pe_ix ix_list (pv 15) (pe_un un_neg pe_int) (fun _ _ => rfl)) (pv 10) (fun _ _ => rfl))))
    pss_nil)))
    pss_nil)
    (pss_cons (ps_if (pt_not (pt_val (pe_call G_law_same (hr.mono (by omega)) (by rfl) T.m_law_same T.F_law_same.kp T.b_law_same .nil pass0 (pa_cons (pv 11) (pa_cons (pv 13) pa_nil)))))
    (pss_one (ps_ret pe_bl))
    pss_nil)
    (pss_one (ps_if (PW.pt (pw_and (pt_cmpR op_notN (pv 13) pe_non (nomark _)) (pw_and1 (pt_cmpR op_gt (pv 13) pe_int (nomark _)))))
    (pss_one (ps_if (pt_not (pt_val (pe_call G_law_is_emptied (hr.mono (by omega)) (by rfl) T.m_law_is_emptied T.F_law_is_emptied.kp T.b_law_is_emptied .nil pass0 (pa_cons (pv 2) (pa_cons (pv 4) (pa_cons (pv 7) (pa_cons (pv 10) (pa_cons (pv 15) (pa_cons (pe_op op_sub (pv 13) pe_int) pa_nil)))))))))
    (pss_one (ps_ret pe_bl))
    pss_nil))
    pss_nil))))))))))))
    (pss_one (ps_ret pe_bl)))))))), ?_⟩
  refine ⟨_, rfl, a, ns, 191, rfl, hSq, hl, by decide, by decide, fun d H1 s1 hd D1 => ?_⟩
  refine ⟨_, rfl, d, 8, rfl, D1, by decide, by decide, fun v A0 H2 g2 hA hG => ?_⟩
  obtain ⟨b0, xs, rfl, e0, hxs⟩ := id hA
  have hxl := hxs.1
  have h400 := hG.1
  refine ⟨_, rfl, d, 4, rfl, g2.dr, by decide, fun u3 H3 g3 a3 b3 => ⟨rfl, _, rfl, ?_⟩⟩
  have hA3 := hA.tp (g3.tp g2.dr)
  refine' cutP (B := ∀ H4, Go d H2 H4 → (?F : Hp → Prop) H4) ?f1 ?b1
  case f1 =>
    intro go
    by_cases h3 : u3 = 3
    · refine ifT (decide_eq_true (by rw [h3])) ?_
      refine ⟨_, rfl, d, rfl, g3.dr, fun H4 g4 => ⟨true, rfl, iteF ?_⟩⟩
      exact go H4 (g3.trans g4)
    · refine ifF (decide_eq_false fun h => h3 (V.int.inj h)) ?_
      exact iteF (go H3 g3)
  case b1 =>
  intro H4 g4
  have hA4 := hA.tp (g4.tp g2.dr)
  refine ⟨Nat.le_of_ble_eq_true rfl, fun sl hsl => ?_⟩
  have g4l := g4.trans (Go.new (o := .lst [.int 1, .int 1, .int 1, .int 333]) g4.dr hsl)
  refine ⟨_, rfl, d, 4, rfl, g4l.dr, by decide, fun u5 H5 g5 a5 b5 => ?_⟩
  have esl : H5 sl = some (.lst ([1, 1, 1, 333].map V.int)) := g5.fr sl _ (new_ne g4.dr hsl) upd_same
  obtain ⟨scale, hsc, hscm⟩ := atI_map (f := V.int) (xs := ([1, 1, 1, 333] : List Int)) a5 b5
  have hsc3 : 0 < scale ∧ scale ≤ 333 := by
    simp only [List.mem_cons, List.not_mem_nil, or_false] at hscm
    omega
  refine ⟨sl, _, _, _, rfl, rfl, sqd esl, hsc, ?_⟩
  have g25 := g4l.trans g5
  have hA5 := hA.tp (g25.tp g2.dr)
  refine ⟨_, rfl, _, rfl, d, _, A0, rfl, g25.dr, hA5, hG, fun p t B H6 g6 kp hB hBG hB3 => ?_⟩
  obtain ⟨tb, xb, etb, kt, hxb⟩ := hB
  cases etb
  have hbl := hBG.len
  have hxbl := hxb.1
  refine ⟨p, _, _, _, rfl, rfl, sqt kp, atI1, t, rfl, ⟨_, sqt kt⟩, fun D hD => ?_⟩
  refine lc_tup (K := K) (a := t) (xs := xb) (fun (j : Nat) (H' : Hp) => ∃ zs, Same H6 H' ∧ H' D = some (.lst zs) ∧ Each (OptIn H') ((B.take j).map fun r => r.map fun x => scale * x) zs) ?_ ?_ ?_ ?_
  · exact ⟨[], same_new hD _, upd_same, .nil⟩
  · rintro j H' _ ⟨zs, s7, _⟩
    exact sqt (s7 _ _ kt)
  · rintro j x H7 hx ⟨zs, s7, k7, hzs⟩
    have hjl := (List.getElem?_eq_some_iff.mp hx).1
    have hr := List.getElem?_eq_getElem (show j < B.length by omega)
    generalize B[j] = r at hr
    obtain ⟨x', hx', b, rfl, eb⟩ := hxb.at hr
    rw [hx] at hx'
    cases hx'
    have hos := List.getElem?_eq_getElem (show j < A0.length by omega)
    have hrl := hBG.row j _ r hos hr
    have hr12 := (hG.2 _ (List.mem_of_getElem? hos)).1
    have eb7 := s7 _ _ eb
    refine ⟨rfl, yes_if ?_⟩
    refine ⟨_, rfl, b, rfl, ⟨_, sqt eb7⟩, fun D2 hD2 => ?_⟩
    refine lc_tup (K := K) (a := b) (xs := r.map V.int) (fun (m : Nat) (H' : Hp) => Same H7 H' ∧ H' D2 = some (.lst (((r.take m).map fun x => scale * x).map V.int))) ?_ ?_ ?_ ?_
    · exact ⟨same_new hD2 _, upd_same⟩
    · rintro m H' _ ⟨s8, _⟩
      exact sqt (s8 _ _ eb7)
    · rintro m x H8 hx8 ⟨s8, k8⟩
      rw [List.getElem?_map] at hx8
      obtain ⟨y, hy, rfl⟩ := Option.map_eq_some_iff.mp hx8
      refine ⟨rfl, yes_if ?_⟩
      refine ⟨_, rfl, _, rfl, _, _, rfl, rfl, .inl ⟨by omega, by omega⟩, _, k8, big' (by rw [List.length_map, List.length_map, List.length_take]; omega), same_put s8 hD2, ?_⟩
      rw [upd_same, List.take_add_one, hy, List.map_append, List.map_append]
      rfl
    rintro H8 ⟨s8, k8⟩
    rw [List.length_map, List.take_length] at k8
    refine ⟨D2, _, rfl, .inl ⟨sqd k8, fun tc htc => ?_⟩⟩
    obtain ⟨H9, E9, s9, k9⟩ := newH htc (.tup ((r.map fun x => scale * x).map V.int))
    rw [E9]
    have s79 := s8.trans s9
    have hzl := hzs.1
    rw [List.length_map, List.length_take] at hzl
    have k79 := s79 _ _ k7
    refine ⟨zs, k79, big' (by omega), zs ++ [.ref tc], same_put (s7.trans s79) hD, upd_same, ?_⟩
    have tpx : Tp H7 (upd H9 D (.lst (zs ++ [.ref tc]))) := tp_put (Tp.same s79) k79
    have ntc : tc ≠ D := fun e => by
      rw [e, s8 _ _ k7] at htc
      cases htc
    rw [List.take_add_one, hr, List.map_append]
    refine (hzs.mono fun o x => OptIn.tp tpx).snoc ⟨tc, rfl, ?_⟩
    rw [upd_ne ntc]
    exact k9
  rintro H7 ⟨zs, s7, k7, hzs⟩
  rw [List.take_of_length_le (by omega)] at hzs
  refine ⟨D, _, rfl, .inl ⟨sqd k7, fun tg htg => ?_⟩⟩
  obtain ⟨H8, E8, s8, k8⟩ := newH htg (.tup zs)
  rw [E8]
  have hB8 : PosIn H8 (B.map fun r => r.map fun x => scale * x) (.ref tg) := ⟨tg, zs, rfl, k8, hzs.mono fun a x => OptIn.tp (Tp.same s8)⟩
  have hBG8 : GnG A0 (B.map fun r => r.map fun x => scale * x) := by
    refine ⟨by rw [List.length_map]; exact hbl, fun k os r ho hr => ?_⟩
    rw [List.getElem?_map] at hr
    obtain ⟨r0, hr0, rfl⟩ := Option.map_eq_some_iff.mp hr
    rw [List.length_map]
    exact hBG.row k os r0 ho hr0
  generalize (B.map fun r => r.map fun x => scale * x) = B8 at hB8 hBG8
  have g28 := (g25.trans g6).trans (.same (g25.trans g6).dr (s7.trans s8))
  have hA8 := hA.tp (g28.tp g2.dr)
  refine ⟨_, rfl, _, rfl, d, _, A0, rfl, g28.dr, hA8, h400, fun ga G0 H9 g9 k9 hS0 => ?_⟩
  have hA9 := hA8.tp (g9.tp g28.dr)
  refine ⟨_, rfl, _, rfl, d, _, A0, rfl, g9.dr, hA9, h400, fun gb G1 H10 g10 k10 hS1 => ?_⟩
  have hA10 := hA9.tp (g10.tp g9.dr)
  have k9' := g10.tp g9.dr _ _ k9
  have hB10 := hB8.tp ((g9.tp g28.dr).trans (g10.tp g9.dr))
  have e010 := g10.tp g9.dr _ _ (g9.tp g28.dr _ _ (g28.tp g2.dr _ _ e0))
  refine ⟨Nat.le_of_ble_eq_true rfl, fun ql hql => ?_⟩
  obtain ⟨H11, e11, s11, k11⟩ := newH hql (.lst [V.ref ga, V.ref gb])
  rw [e11]
  refine ⟨ql, rfl, ⟨_, sqd k11⟩, ?_⟩
  refine for_list (K := K) (a := ql) (xs := [V.ref ga, V.ref gb]) (fun (i : Nat) (σ : L2.St) (H' : Hp) => ∃ (y5 y6 y7 y8 y9 y10 y11 y12 y13 y14 y15 : Option V), σ = [some (.ref a), some (.ref d), some (.ref b0), some (.int scale), some (.ref tg), y5, y6, y7, y8, y9, y10, y11, y12, y13, y14, y15] ∧ Same H11 H') ?_ ?_ ?_ ?_
  · exact ⟨_, _, _, _, _, _, _, _, _, _, _, rfl, Same.refl H11⟩
  · rintro i σ H' _ ⟨y5, y6, y7, y8, y9, y10, y11, y12, y13, y14, y15, rfl, s12⟩
    exact sqd (s12 _ _ k11)
  · rintro i x σ H12 hx ⟨y5, y6, y7, y8, y9, y10, y11, y12, y13, y14, y15, rfl, s12⟩
    have s112 := s11.trans s12
    have hst : ∃ g G, x = .ref g ∧ H12 g = some (.tup (G.map V.int)) ∧ StG A0 G := by
      rcases i with _ | _ | i
      · cases hx
        exact ⟨ga, G0, rfl, s112 _ _ k9', hS0⟩
      · cases hx
        exact ⟨gb, G1, rfl, s112 _ _ k10, hS1⟩
      · cases hx
    obtain ⟨g, G, rfl, eg, hS⟩ := hst
    have e012 := s112 _ _ e010
    have hA12 := hA10.tp (Tp.same s112)
    have hB12 := hB10.tp (Tp.same s112)
    refine ⟨_, rfl, b0, _, rfl, .inr (sqt e012), 9, _, rfl, Nat.le_of_ble_eq_true rfl, fun ml hml => ?_⟩
    obtain ⟨H13, e13, s13, k13⟩ := newH hml (.lst [V.int (if ((xs.length : Nat) : Int) < 9 then ((xs.length : Nat) : Int) else 9), V.int 1])
    rw [show upd H12 ml (.lst [V.int (if ((xs.length : Nat) : Int) < 9 then ((xs.length : Nat) : Int) else 9), V.int 1]) = H13 from e13]
    have hmany : ∃ many : Nat, atI [V.int (if ((xs.length : Nat) : Int) < 9 then ((xs.length : Nat) : Int) else 9), V.int 1] (if decide ((9 : Int) < ((xs.length : Nat) : Int)) = true then 1 else 0) = some (V.int (many : Int)) ∧ many ≤ 9 := by
      by_cases h9 : (9 : Int) < ((xs.length : Nat) : Int)
      · refine ⟨1, ?_, by decide⟩
        rw [if_pos (decide_eq_true h9)]
        exact atI1
      · refine ⟨xs.length, ?_, by omega⟩
        rw [if_neg (show ¬ decide ((9 : Int) < ((xs.length : Nat) : Int)) = true by rw [decide_eq_false h9]; exact Bool.false_ne_true)]
        have : (if ((xs.length : Nat) : Int) < 9 then ((xs.length : Nat) : Int) else 9) = ((xs.length : Nat) : Int) := by
          split <;> omega
        rw [this]
        exact atI0
    obtain ⟨many, hat, hm9⟩ := hmany
    refine ⟨_, rfl, b0, _, rfl, .inr (sqt (s13 _ _ e012)), _, _, rfl, rfl, .inr ⟨_, rfl, ml, _, _, _, rfl, rfl, sqd k13, hat, ?_⟩⟩
    refine ⟨_, rfl, _, rfl, by omega, by omega, ?_⟩
    refine for_range (lo := 0) (n := ((many : Nat) : Int).toNat) (fun (j : Nat) (σ : L2.St) (H' : Hp) => ∃ (y5 y6 y9 y10 y11 y12 y13 y14 y15 : Option V), σ = [some (.ref a), some (.ref d), some (.ref b0), some (.int scale), some (.ref tg), y5, y6, some (.ref g), some (.int (many : Int)), y9, y10, y11, y12, y13, y14, y15] ∧ Same H12 H') ?_ ?_ ?_
    · exact ⟨_, _, _, _, _, _, _, _, _, rfl, s13⟩
    · rintro j σ H14 hj ⟨y5, y6, y9, y10, y11, y12, y13, y14, y15, rfl, s14⟩
      have hjm : j < many := by omega
      generalize hk : (0 : Int) + (j : Int) = k
      have hkj : k = (j : Int) := by omega
      clear hk
      subst hkj
      have hxpos : 0 < xs.length ∨ xs.length = 0 := by omega
      refine ⟨_, rfl, _, rfl, b0, _, rfl, .inr (sqt (s14 _ _ e012)), _, _, rfl, rfl, .inl ⟨by omega, by omega⟩, _, rfl, _, _, rfl, rfl, ⟨by omega, by omega⟩, ?_⟩
      dsimp only
      have hmx : xs.length = 0 → False := fun h0 => by
        have h9 : ¬ (9 : Int) < ((xs.length : Nat) : Int) := by omega
        rw [if_neg (show ¬ decide ((9 : Int) < ((xs.length : Nat) : Int)) = true by rw [decide_eq_false h9]; exact Bool.false_ne_true)] at hat
        have h1 : (if ((xs.length : Nat) : Int) < 9 then ((xs.length : Nat) : Int) else 9) = 0 := by split <;> omega
        rw [h1] at hat
        have h2 := hat.symm.trans atI0
        have h3 := V.int.inj (Option.some.inj h2)
        omega
      have hst0 : 0 ≤ (j : Int) * ((xs.length : Nat) : Int) / (many : Int) := Int.ediv_nonneg (Int.mul_nonneg (by omega) (by omega)) (by omega)
      have hst1 : (j : Int) * ((xs.length : Nat) : Int) / (many : Int) < A0.length := by
        refine Int.ediv_lt_of_lt_mul (by omega) ?_
        have hp : 0 < xs.length := by
          rcases hxpos with h | h
          · exact h
          · exact (hmx h).elim
        have h1 : ((j : Int) + 1) * ((xs.length : Nat) : Int) ≤ (many : Int) * ((xs.length : Nat) : Int) := Int.mul_le_mul_of_nonneg_right (by omega) (by omega)
        rw [Int.add_mul, Int.one_mul] at h1
        rw [show ((A0.length : Nat) : Int) = ((xs.length : Nat) : Int) by omega, Int.mul_comm ((xs.length : Nat) : Int)]
        omega
      generalize (j : Int) * ((xs.length : Nat) : Int) / (many : Int) = st at hst0 hst1 ⊢
      have hA14 := hA12.tp (Tp.same s14)
      have hB14 := hB12.tp (Tp.same s14)
      refine ⟨_, rfl, _, rfl, _, rfl, _, rfl, .ref b0, .ref tg, A0, B8, g, G, st, rfl, hA14, hG, hB14, hBG8, s14 _ _ eg, hS, hst0, hst1, fun u H15 R s15 hR hu => ?_⟩
      have s1215 := s14.trans s15
      have hA15 := hA14.tp (Tp.same s15)
      have hB15 := hB14.tp (Tp.same s15)
      have eg15 := s1215 _ _ eg
      refine ⟨_, rfl, _, rfl, _, rfl, .ref b0, A0, g, G, st, rfl, hA15, hG, eg15, hS, hst0, hst1, fun fl F H16 s16 kf hFl hFi hFR => ?_⟩
      have hFk := hFR R hR
      have s1216 := s1215.trans s16
      have eg16 := s1216 _ _ eg
      have hA16 := hA15.tp (Tp.same s16)
      have hB16 := hB15.tp (Tp.same s16)
      have hpt := fun (p : Int) (h0 : 0 ≤ p) (h1 : p < (A0.length : Int)) => sc_pt (G := G) hS h0 h1
      have hout := fun (p : Int) (h : scF A0 G p ≠ []) => sc_out h
      have hemp : ∀ p ∈ F, (p = -1 → scF A0 G p = []) ∧ (p ≠ -1 → ∃ gi, G[p.toNat]? = some gi ∧ 0 ≤ p ∧ (gi = -1 ↔ scF A0 G p = [])) := by
        intro p hp
        refine ⟨fun h => Classical.byContradiction fun hn => ?_, fun h => ?_⟩
        · have := hout p hn
          omega
        · have hin := hFi p hp
          obtain ⟨gi, os, hgi, hos, hcase⟩ := hpt p (by omega) hin.2
          refine ⟨gi, hgi, by omega, ?_⟩
          rcases hcase with ⟨h1, h2⟩ | ⟨h1, h2, h3⟩
          · exact ⟨fun _ => h2, fun _ => h1⟩
          · refine ⟨fun h => by omega, fun h => ?_⟩
            exact absurd h ((hG.2 os (List.mem_of_getElem? hos)).2 _ (List.mem_of_getElem? h3)).ne
      have hFK : ∀ k, lv (scF A0 G) (gnF B8 G) F k = lv (scF A0 G) (gnF B8 G) (keysE R) k := fun k => lv_congr hFk k
      have hCC : Conv (scF A0 G) (gnF B8 G) F A0.length ↔ Conv (scF A0 G) (gnF B8 G) (keysE R) A0.length := by
        constructor
        · intro h p hp
          have := h p ((hFk p).mpr hp)
          rw [hFK, hFK] at this
          exact this
        · intro h p hp
          have := h p ((hFk p).mp hp)
          rw [hFK, hFK]
          exact this
      have hstF : st ∈ F := (hFk st).mpr (hR.2.1 st List.mem_cons_self)
      generalize hfe : scF A0 G = f at *
      refine ⟨fun σ H' => ∃ (dv : V) (y14 y15 : Option V), σ = [some (.ref a), some (.ref d), some (.ref b0), some (.int scale), some (.ref tg), y5, y6, some (.ref g), some (.int (many : Int)), some (.int (j : Int)), some (.int st), some u, some (.ref fl), some dv, y14, y15] ∧ Same H16 H' ∧ u = dv ∧ (dv = .non ∨ ∃ ll, y15 = some (.ref ll) ∧ LvAt H' ll A0.length (A0.length + 1) (lv f (gnF B8 G) F) ∧ Net f F A0.length ∧ dv = .int (lv f (gnF B8 G) F (A0.length + 1) st)), ?_, ?_⟩
      · refine ⟨_, rfl, fl, rfl, ⟨_, sqd kf⟩, fun D hD => ?_⟩
        refine lc_list (K := K) (a := fl) (xs := F.map V.int) (fun (m : Nat) (H' : Hp) => Same H16 H' ∧ H' D = some (.lst (((F.take m).filter fun y => decide (f y = [])).map V.int))) ?_ ?_ ?_ ?_
        · exact ⟨same_new hD _, upd_same⟩
        · rintro m H' _ ⟨s17, _⟩
          exact sqd (s17 _ _ kf)
        · rintro m x H17 hx17 ⟨s17, k17⟩
          rw [List.getElem?_map] at hx17
          obtain ⟨y, hy, rfl⟩ := Option.map_eq_some_iff.mp hx17
          have hyF := List.mem_of_getElem? hy
          have hfs := filt_t (fun y => decide (f y = [])) hy
          have hbig : ((List.take m F).filter fun y => decide (f y = [])).length ≤ 401 := by
            have := List.length_filter_le (fun y => decide (f y = [])) (F.take m)
            rw [List.length_take] at this
            omega
          have add : f y = [] → ∃ acc, H17 D = some (.lst acc) ∧ acc.length < sizeLine ∧ Same H16 (upd H17 D (.lst (acc ++ [V.int y]))) ∧ upd H17 D (.lst (acc ++ [V.int y])) D = some (.lst (((F.take (m + 1)).filter fun y => decide (f y = [])).map V.int)) := fun hf => by
            rw [if_pos (decide_eq_true hf)] at hfs
            refine ⟨_, k17, big' (by rw [List.length_map]; omega), same_put s17 hD, ?_⟩
            rw [upd_same, hfs, List.map_append]
            rfl
          refine ⟨rfl, ?_⟩
          refine ⟨_, rfl, _, rfl, rfl, _, rfl, ?_⟩
          by_cases hy1 : y = -1
          · refine ifT (decide_eq_true (by rw [hy1])) ?_
            refine iteT ⟨_, rfl, ?_⟩
            exact add ((hemp y hyF).1 hy1)
          · obtain ⟨gi, hgi, hy0, hiff⟩ := (hemp y hyF).2 hy1
            refine ifF (decide_eq_false fun h => hy1 (V.int.inj h)) ?_
            refine ⟨_, rfl, _, rfl, g, _, _, _, rfl, rfl, sqt (s17 _ _ eg16), atI_get hy0 (map_get hgi), _, rfl, rfl, _, rfl, ?_⟩
            by_cases hg1 : gi = -1
            · refine ifT (decide_eq_true (by rw [hg1])) ?_
              exact ⟨_, rfl, add (hiff.mp hg1)⟩
            · rw [if_neg (by rw [decide_eq_false (fun h => hg1 (hiff.mpr h))]; exact Bool.false_ne_true), List.append_nil] at hfs
              refine ifF (decide_eq_false fun h => hg1 (V.int.inj h)) ⟨s17, ?_⟩
              rw [k17, hfs]
        rintro H17 ⟨s17, k17⟩
        rw [List.length_map, List.take_length] at k17
        refine ⟨D, _, rfl, .inl (sqd k17), rfl, _, rfl, ?_⟩
        by_cases hall : ∀ p ∈ F, f p ≠ []
        case neg =>
          refine ifF (decide_eq_false fun h => hall fun p hp hf => ?_) ?_
          · have h := V.int.inj h
            rw [List.length_map] at h
            have : p ∈ F.filter fun y => decide (f y = []) := List.mem_filter.mpr ⟨hp, decide_eq_true hf⟩
            rw [List.length_eq_zero_iff.mp (show (F.filter fun y => decide (f y = [])).length = 0 by omega)] at this
            cases this
          · refine ⟨.non, _, _, rfl, s17, ?_, .inl rfl⟩
            rcases hu with ⟨h, _⟩ | ⟨h, _⟩
            · exact h
            · exact absurd (fun p hp => h p ((hFk p).mp hp)) hall
        have hem0 : (F.filter fun y => decide (f y = [])) = [] := List.filter_eq_nil_iff.mpr fun p hp h => hall p hp (of_decide_eq_true h)
        refine ifT (decide_eq_true (by rw [hem0]; rfl)) ?_
        have N : Net f F A0.length := by
          refine ⟨fun p hp => ?_, hall, fun p hp x hx => (hFk x).mpr (hR.2.2 p ((hFk p).mp hp) x hx)⟩
          have h0 := hout p (hall p hp)
          have h1 := hFi p hp
          omega
        have s1217 := s1216.trans s17
        refine ⟨_, rfl, _, rfl, _, rfl, _, rfl, .ref b0, .ref tg, A0, B8, g, fl, G, F, rfl, hA16.tp (Tp.same s17), hG, hB16.tp (Tp.same s17), hBG8, s1217 _ _ eg, hS, s17 _ _ kf, (by rw [hfe]; exact N), fun ll H18 s18 hL => ?_⟩
        rw [hfe] at hL
        obtain ⟨zs, kz, hzl, hz⟩ := id hL
        obtain ⟨a1, _, i1, j1⟩ := hz (A0.length + 1) (Nat.le_refl _)
        obtain ⟨a2, _, i2, j2⟩ := hz A0.length (Nat.le_succ _)
        refine ⟨_, rfl, _, rfl, ll, _, _, _, rfl, rfl, sqd kz, atI_m1 hzl i1, _, rfl, _, rfl, ll, _, _, _, rfl, rfl, sqd kz, atI_m2 (by omega) i2, ?_⟩
        refine ⟨.list ((LA A0.length (lv f (gnF B8 G) F (A0.length + 1))).map PyData.int), .list ((LA A0.length (lv f (gnF B8 G) F A0.length)).map PyData.int), .lst (sqd j1) (dp_ints _), .lst (sqd j2) (dp_ints _), shaped_lstU _, shaped_lstU _, _, rfl, ?_⟩
        have hCq : LA A0.length (lv f (gnF B8 G) F (A0.length + 1)) = LA A0.length (lv f (gnF B8 G) F A0.length) ↔ Conv f (gnF B8 G) F A0.length := by
          constructor
          · intro h p hp
            have hin := N.inn p hp
            have := LA_inj h p.toNat (by omega)
            rw [show ((p.toNat : Nat) : Int) = p by omega] at this
            exact this
          · intro h
            refine LA_ext fun k hk => ?_
            by_cases hkF : (k : Int) ∈ F
            · exact h _ hkF
            · rw [lv_out hkF, lv_out hkF]
        have hne : ∀ p ∈ keysE R, f p ≠ [] := fun p hp => hall p ((hFk p).mpr hp)
        by_cases hC : Conv f (gnF B8 G) F A0.length
        · refine ifT ((eqv_intsU _ _).trans (decide_eq_true (hCq.mpr hC))) ?_
          refine ⟨_, rfl, _, rfl, ll, _, _, _, rfl, rfl, sqd kz, atI_m1 hzl i1, _, rfl, a1, _, _, _, rfl, rfl, sqd j1, LA_I hst0 hst1, ?_⟩
          refine ⟨_, _, _, rfl, s17.trans s18, ?_, .inr ⟨ll, rfl, hL, N, rfl⟩⟩
          rcases hu with ⟨_, p, hp, hf⟩ | ⟨_, ⟨h, _⟩ | ⟨_, h⟩⟩
          · exact absurd hf (hne p hp)
          · rw [h, hC st hstF, hFK]
          · exact absurd (hCC.mp hC) h
        · refine ifF ((eqv_intsU _ _).trans (decide_eq_false fun h => hC (hCq.mp h))) ?_
          refine ⟨.non, _, _, rfl, s17.trans s18, ?_, .inl rfl⟩
          rcases hu with ⟨h, _⟩ | ⟨_, ⟨_, h⟩ | ⟨h, _⟩⟩
          · exact h
          · exact absurd (hCC.mpr h) hC
          · exact h
      rintro σ H17 ⟨dv, y14, y15, rfl, s17, hud, hdv⟩
      subst hud
      have s1217 := s1216.trans s17
      refine ⟨_, rfl, _, rfl, u, u, rfl, ?_, true, rfl, iteF ?_⟩
      · rcases hdv with rfl | ⟨ll, _, _, _, rfl⟩
        · exact .inl ⟨rfl, rfl⟩
        · exact .inr (.inr (.inl ⟨_, rfl, rfl⟩))
      rcases hdv with rfl | ⟨ll, rfl, hL, N, rfl⟩
      · refine ⟨_, rfl, rfl, _, rfl, ifF rfl ?_⟩
        refine iteF ⟨_, _, _, _, _, _, _, _, _, rfl, s1217⟩
      · refine ⟨_, rfl, rfl, _, rfl, ifT rfl ?_⟩
        refine ⟨_, rfl, _, _, rfl, rfl, _, rfl, ?_⟩
        refine ite2 (fun z => ?_) (fun z => ?_)
        · have hpos := of_decide_eq_true z
          refine ⟨_, rfl, _, rfl, _, rfl, _, rfl, _, rfl, _, rfl, _, _, rfl, rfl, ?_⟩
          refine ⟨.ref b0, .ref tg, A0, B8, g, ll, G, F, st, _, rfl, hA16.tp (Tp.same s17), hG, hB16.tp (Tp.same s17), hBG8, s1217 _ _ eg, hS, (by rw [hfe]; exact N), (by rw [hfe]; exact hL), hstF, (by rw [hfe]), (by rw [hfe]; exact hpos), fun H18 s18 => ⟨true, rfl, iteF ?_⟩⟩
          exact ⟨_, _, _, _, _, _, _, _, _, rfl, s1217.trans s18⟩
        · exact ⟨_, _, _, _, _, _, _, _, _, rfl, s1217⟩
    · rintro σ H14 ⟨y5, y6, y9, y10, y11, y12, y13, y14, y15, rfl, s14⟩
      exact ⟨_, _, _, _, _, _, _, _, _, _, _, rfl, s12.trans s14⟩
  · rintro σ H12 _
    exact q H12
end
end NL

namespace NL
open PySem PySem.Spec PyProof.Rows L2
theorem all_mk {l : PySem.W.OpenLaw} {w : World} {K : PySem.W.Frag} {h : Heap} {mg : Str → Option Value} {fa fvalues_of_rows f_successors_by f_least_rows fstrategy_credit f_law_draws f_law_take f_law_great f_law_arena f_law_strategy f_law_goal f_law_some f_law_same f_law_reached f_law_losses f_law_is_emptied f_law_is_long_right flaw : Addr} (X : K.In h) (G : h.Ns mainGlobals mg) (hfa : mg "law" = some (.ref fa))
    {odvalues_of_rows anvalues_of_rows : Option Addr} {slvalues_of_rows : Array (Option Value)} {ocvalues_of_rows kVvalues_of_rows dcvalues_of_rows pmvalues_of_rows cdvalues_of_rows ctvalues_of_rows : Value}
    {od_successors_by an_successors_by : Option Addr} {sl_successors_by : Array (Option Value)} {oc_successors_by kV_successors_by dc_successors_by pm_successors_by cd_successors_by ct_successors_by : Value}
    {od_least_rows an_least_rows : Option Addr} {sl_least_rows : Array (Option Value)} {oc_least_rows kV_least_rows dc_least_rows pm_least_rows cd_least_rows ct_least_rows : Value}
    {odstrategy_credit anstrategy_credit : Option Addr} {slstrategy_credit : Array (Option Value)} {ocstrategy_credit kVstrategy_credit dcstrategy_credit pmstrategy_credit cdstrategy_credit ctstrategy_credit : Value}
    {od_law_draws an_law_draws : Option Addr} {sl_law_draws : Array (Option Value)} {oc_law_draws kV_law_draws dc_law_draws pm_law_draws cd_law_draws ct_law_draws : Value}
    {od_law_take an_law_take : Option Addr} {sl_law_take : Array (Option Value)} {oc_law_take kV_law_take dc_law_take pm_law_take cd_law_take ct_law_take : Value}
    {od_law_great an_law_great : Option Addr} {sl_law_great : Array (Option Value)} {oc_law_great kV_law_great dc_law_great pm_law_great cd_law_great ct_law_great : Value}
    {od_law_arena an_law_arena : Option Addr} {sl_law_arena : Array (Option Value)} {oc_law_arena kV_law_arena dc_law_arena pm_law_arena cd_law_arena ct_law_arena : Value}
    {od_law_strategy an_law_strategy : Option Addr} {sl_law_strategy : Array (Option Value)} {oc_law_strategy kV_law_strategy dc_law_strategy pm_law_strategy cd_law_strategy ct_law_strategy : Value}
    {od_law_goal an_law_goal : Option Addr} {sl_law_goal : Array (Option Value)} {oc_law_goal kV_law_goal dc_law_goal pm_law_goal cd_law_goal ct_law_goal : Value}
    {od_law_some an_law_some : Option Addr} {sl_law_some : Array (Option Value)} {oc_law_some kV_law_some dc_law_some pm_law_some cd_law_some ct_law_some : Value}
    {od_law_same an_law_same : Option Addr} {sl_law_same : Array (Option Value)} {oc_law_same kV_law_same dc_law_same pm_law_same cd_law_same ct_law_same : Value}
    {od_law_reached an_law_reached : Option Addr} {sl_law_reached : Array (Option Value)} {oc_law_reached kV_law_reached dc_law_reached pm_law_reached cd_law_reached ct_law_reached : Value}
    {od_law_losses an_law_losses : Option Addr} {sl_law_losses : Array (Option Value)} {oc_law_losses kV_law_losses dc_law_losses pm_law_losses cd_law_losses ct_law_losses : Value}
    {od_law_is_emptied an_law_is_emptied : Option Addr} {sl_law_is_emptied : Array (Option Value)} {oc_law_is_emptied kV_law_is_emptied dc_law_is_emptied pm_law_is_emptied cd_law_is_emptied ct_law_is_emptied : Value}
    {od_law_is_long_right an_law_is_long_right : Option Addr} {sl_law_is_long_right : Array (Option Value)} {oc_law_is_long_right kV_law_is_long_right dc_law_is_long_right pm_law_is_long_right cd_law_is_long_right ct_law_is_long_right : Value}
    {odlaw anlaw : Option Addr} {sllaw : Array (Option Value)} {oclaw kVlaw dclaw pmlaw cdlaw ctlaw : Value}
    (avalues_of_rows : PySem.W.nsIn K mainGlobals "values_of_rows" = some (some (.ref fvalues_of_rows))) (lvalues_of_rows : K.lookup fvalues_of_rows = some ⟨ocvalues_of_rows, odvalues_of_rows, .func (PySem.W.fnOf "values_of_rows" "values_of_rows" (defArgs svalues_of_rows) (defBody svalues_of_rows) (defScope svalues_of_rows) .none kVvalues_of_rows dcvalues_of_rows pmvalues_of_rows anvalues_of_rows cdvalues_of_rows ctvalues_of_rows), slvalues_of_rows⟩) (cvalues_of_rows : PySem.W.codeIn K cdvalues_of_rows "values_of_rows" = true) (kvalues_of_rows : PySem.W.keepIn K (.ref fvalues_of_rows) = true)
    (a_successors_by : PySem.W.nsIn K mainGlobals "_successors_by" = some (some (.ref f_successors_by))) (l_successors_by : K.lookup f_successors_by = some ⟨oc_successors_by, od_successors_by, .func (PySem.W.fnOf "_successors_by" "_successors_by" (defArgs s_successors_by) (defBody s_successors_by) (defScope s_successors_by) .none kV_successors_by dc_successors_by pm_successors_by an_successors_by cd_successors_by ct_successors_by), sl_successors_by⟩) (c_successors_by : PySem.W.codeIn K cd_successors_by "_successors_by" = true) (k_successors_by : PySem.W.keepIn K (.ref f_successors_by) = true)
    (a_least_rows : PySem.W.nsIn K mainGlobals "_least_rows" = some (some (.ref f_least_rows))) (l_least_rows : K.lookup f_least_rows = some ⟨oc_least_rows, od_least_rows, .func (PySem.W.fnOf "_least_rows" "_least_rows" (defArgs s_least_rows) (defBody s_least_rows) (defScope s_least_rows) .none kV_least_rows dc_least_rows pm_least_rows an_least_rows cd_least_rows ct_least_rows), sl_least_rows⟩) (c_least_rows : PySem.W.codeIn K cd_least_rows "_least_rows" = true) (k_least_rows : PySem.W.keepIn K (.ref f_least_rows) = true)
    (astrategy_credit : PySem.W.nsIn K mainGlobals "strategy_credit" = some (some (.ref fstrategy_credit))) (lstrategy_credit : K.lookup fstrategy_credit = some ⟨ocstrategy_credit, odstrategy_credit, .func (PySem.W.fnOf "strategy_credit" "strategy_credit" (defArgs sstrategy_credit) (defBody sstrategy_credit) (defScope sstrategy_credit) .none kVstrategy_credit dcstrategy_credit pmstrategy_credit anstrategy_credit cdstrategy_credit ctstrategy_credit), slstrategy_credit⟩) (cstrategy_credit : PySem.W.codeIn K cdstrategy_credit "strategy_credit" = true) (kstrategy_credit : PySem.W.keepIn K (.ref fstrategy_credit) = true)
    (a_law_draws : PySem.W.nsIn K mainGlobals "_law_draws" = some (some (.ref f_law_draws))) (l_law_draws : K.lookup f_law_draws = some ⟨oc_law_draws, od_law_draws, .func (PySem.W.fnOf "_law_draws" "_law_draws" (defArgs s_law_draws) (defBody s_law_draws) (defScope s_law_draws) .none kV_law_draws dc_law_draws pm_law_draws an_law_draws cd_law_draws ct_law_draws), sl_law_draws⟩) (c_law_draws : PySem.W.codeIn K cd_law_draws "_law_draws" = true) (k_law_draws : PySem.W.keepIn K (.ref f_law_draws) = true)
    (a_law_take : PySem.W.nsIn K mainGlobals "_law_take" = some (some (.ref f_law_take))) (l_law_take : K.lookup f_law_take = some ⟨oc_law_take, od_law_take, .func (PySem.W.fnOf "_law_take" "_law_take" (defArgs s_law_take) (defBody s_law_take) (defScope s_law_take) .none kV_law_take dc_law_take pm_law_take an_law_take cd_law_take ct_law_take), sl_law_take⟩) (c_law_take : PySem.W.codeIn K cd_law_take "_law_take" = true) (k_law_take : PySem.W.keepIn K (.ref f_law_take) = true)
    (a_law_great : PySem.W.nsIn K mainGlobals "_law_great" = some (some (.ref f_law_great))) (l_law_great : K.lookup f_law_great = some ⟨oc_law_great, od_law_great, .func (PySem.W.fnOf "_law_great" "_law_great" (defArgs s_law_great) (defBody s_law_great) (defScope s_law_great) .none kV_law_great dc_law_great pm_law_great an_law_great cd_law_great ct_law_great), sl_law_great⟩) (c_law_great : PySem.W.codeIn K cd_law_great "_law_great" = true) (k_law_great : PySem.W.keepIn K (.ref f_law_great) = true)
    (a_law_arena : PySem.W.nsIn K mainGlobals "_law_arena" = some (some (.ref f_law_arena))) (l_law_arena : K.lookup f_law_arena = some ⟨oc_law_arena, od_law_arena, .func (PySem.W.fnOf "_law_arena" "_law_arena" (defArgs s_law_arena) (defBody s_law_arena) (defScope s_law_arena) .none kV_law_arena dc_law_arena pm_law_arena an_law_arena cd_law_arena ct_law_arena), sl_law_arena⟩) (c_law_arena : PySem.W.codeIn K cd_law_arena "_law_arena" = true) (k_law_arena : PySem.W.keepIn K (.ref f_law_arena) = true)
    (a_law_strategy : PySem.W.nsIn K mainGlobals "_law_strategy" = some (some (.ref f_law_strategy))) (l_law_strategy : K.lookup f_law_strategy = some ⟨oc_law_strategy, od_law_strategy, .func (PySem.W.fnOf "_law_strategy" "_law_strategy" (defArgs s_law_strategy) (defBody s_law_strategy) (defScope s_law_strategy) .none kV_law_strategy dc_law_strategy pm_law_strategy an_law_strategy cd_law_strategy ct_law_strategy), sl_law_strategy⟩) (c_law_strategy : PySem.W.codeIn K cd_law_strategy "_law_strategy" = true) (k_law_strategy : PySem.W.keepIn K (.ref f_law_strategy) = true)
    (a_law_goal : PySem.W.nsIn K mainGlobals "_law_goal" = some (some (.ref f_law_goal))) (l_law_goal : K.lookup f_law_goal = some ⟨oc_law_goal, od_law_goal, .func (PySem.W.fnOf "_law_goal" "_law_goal" (defArgs s_law_goal) (defBody s_law_goal) (defScope s_law_goal) .none kV_law_goal dc_law_goal pm_law_goal an_law_goal cd_law_goal ct_law_goal), sl_law_goal⟩) (c_law_goal : PySem.W.codeIn K cd_law_goal "_law_goal" = true) (k_law_goal : PySem.W.keepIn K (.ref f_law_goal) = true)
    (a_law_some : PySem.W.nsIn K mainGlobals "_law_some" = some (some (.ref f_law_some))) (l_law_some : K.lookup f_law_some = some ⟨oc_law_some, od_law_some, .func (PySem.W.fnOf "_law_some" "_law_some" (defArgs s_law_some) (defBody s_law_some) (defScope s_law_some) .none kV_law_some dc_law_some pm_law_some an_law_some cd_law_some ct_law_some), sl_law_some⟩) (c_law_some : PySem.W.codeIn K cd_law_some "_law_some" = true) (k_law_some : PySem.W.keepIn K (.ref f_law_some) = true)
    (a_law_same : PySem.W.nsIn K mainGlobals "_law_same" = some (some (.ref f_law_same))) (l_law_same : K.lookup f_law_same = some ⟨oc_law_same, od_law_same, .func (PySem.W.fnOf "_law_same" "_law_same" (defArgs s_law_same) (defBody s_law_same) (defScope s_law_same) .none kV_law_same dc_law_same pm_law_same an_law_same cd_law_same ct_law_same), sl_law_same⟩) (c_law_same : PySem.W.codeIn K cd_law_same "_law_same" = true) (k_law_same : PySem.W.keepIn K (.ref f_law_same) = true)
    (a_law_reached : PySem.W.nsIn K mainGlobals "_law_reached" = some (some (.ref f_law_reached))) (l_law_reached : K.lookup f_law_reached = some ⟨oc_law_reached, od_law_reached, .func (PySem.W.fnOf "_law_reached" "_law_reached" (defArgs s_law_reached) (defBody s_law_reached) (defScope s_law_reached) .none kV_law_reached dc_law_reached pm_law_reached an_law_reached cd_law_reached ct_law_reached), sl_law_reached⟩) (c_law_reached : PySem.W.codeIn K cd_law_reached "_law_reached" = true) (k_law_reached : PySem.W.keepIn K (.ref f_law_reached) = true)
    (a_law_losses : PySem.W.nsIn K mainGlobals "_law_losses" = some (some (.ref f_law_losses))) (l_law_losses : K.lookup f_law_losses = some ⟨oc_law_losses, od_law_losses, .func (PySem.W.fnOf "_law_losses" "_law_losses" (defArgs s_law_losses) (defBody s_law_losses) (defScope s_law_losses) .none kV_law_losses dc_law_losses pm_law_losses an_law_losses cd_law_losses ct_law_losses), sl_law_losses⟩) (c_law_losses : PySem.W.codeIn K cd_law_losses "_law_losses" = true) (k_law_losses : PySem.W.keepIn K (.ref f_law_losses) = true)
    (a_law_is_emptied : PySem.W.nsIn K mainGlobals "_law_is_emptied" = some (some (.ref f_law_is_emptied))) (l_law_is_emptied : K.lookup f_law_is_emptied = some ⟨oc_law_is_emptied, od_law_is_emptied, .func (PySem.W.fnOf "_law_is_emptied" "_law_is_emptied" (defArgs s_law_is_emptied) (defBody s_law_is_emptied) (defScope s_law_is_emptied) .none kV_law_is_emptied dc_law_is_emptied pm_law_is_emptied an_law_is_emptied cd_law_is_emptied ct_law_is_emptied), sl_law_is_emptied⟩) (c_law_is_emptied : PySem.W.codeIn K cd_law_is_emptied "_law_is_emptied" = true) (k_law_is_emptied : PySem.W.keepIn K (.ref f_law_is_emptied) = true)
    (a_law_is_long_right : PySem.W.nsIn K mainGlobals "_law_is_long_right" = some (some (.ref f_law_is_long_right))) (l_law_is_long_right : K.lookup f_law_is_long_right = some ⟨oc_law_is_long_right, od_law_is_long_right, .func (PySem.W.fnOf "_law_is_long_right" "_law_is_long_right" (defArgs s_law_is_long_right) (defBody s_law_is_long_right) (defScope s_law_is_long_right) .none kV_law_is_long_right dc_law_is_long_right pm_law_is_long_right an_law_is_long_right cd_law_is_long_right ct_law_is_long_right), sl_law_is_long_right⟩) (c_law_is_long_right : PySem.W.codeIn K cd_law_is_long_right "_law_is_long_right" = true) (k_law_is_long_right : PySem.W.keepIn K (.ref f_law_is_long_right) = true)
    (alaw : PySem.W.nsIn K mainGlobals "law" = some (some (.ref flaw))) (llaw : K.lookup flaw = some ⟨oclaw, odlaw, .func (PySem.W.fnOf "law" "law" (defArgs slaw) (defBody slaw) (defScope slaw) .none kVlaw dclaw pmlaw anlaw cdlaw ctlaw), sllaw⟩) (claw : PySem.W.codeIn K cdlaw "law" = true) (klaw : PySem.W.keepIn K (.ref flaw) = true)
    (z_any : PySem.W.nsIn K mainGlobals "any" = some none)
    (z_bool : PySem.W.nsIn K mainGlobals "bool" = some none)
    (z_int : PySem.W.nsIn K mainGlobals "int" = some none)
    (z_isinstance : PySem.W.nsIn K mainGlobals "isinstance" = some none)
    (z_len : PySem.W.nsIn K mainGlobals "len" = some none)
    (z_list : PySem.W.nsIn K mainGlobals "list" = some none)
    (z_max : PySem.W.nsIn K mainGlobals "max" = some none)
    (z_min : PySem.W.nsIn K mainGlobals "min" = some none)
    (z_range : PySem.W.nsIn K mainGlobals "range" = some none)
    (z_set : PySem.W.nsIn K mainGlobals "set" = some none)
    (z_sorted : PySem.W.nsIn K mainGlobals "sorted" = some none)
    (z_str : PySem.W.nsIn K mainGlobals "str" = some none)
    (z_tuple : PySem.W.nsIn K mainGlobals "tuple" = some none)
    (z_zip : PySem.W.nsIn K mainGlobals "zip" = some none)
    : ∃ fd : FuncData, (∀ (s : Shared) (v : Value), BindsTo s fd ⟨[v], []⟩ [("script", v)]) ∧ ∀ base : Heap, K.In base → base.Ns mainGlobals mg → FnOk l.prog w K mg base CX0 5 fa fd ["script"] (spLaw K) := by
  have e := hfa.symm.trans (PySem.W.mg_of X G alaw)
  cases e
  let T : Txt K mg := {
    z_any := PySem.W.mg_none_of X G z_any
    z_bool := PySem.W.mg_none_of X G z_bool
    z_int := PySem.W.mg_none_of X G z_int
    z_isinstance := PySem.W.mg_none_of X G z_isinstance
    z_len := PySem.W.mg_none_of X G z_len
    z_list := PySem.W.mg_none_of X G z_list
    z_max := PySem.W.mg_none_of X G z_max
    z_min := PySem.W.mg_none_of X G z_min
    z_range := PySem.W.mg_none_of X G z_range
    z_set := PySem.W.mg_none_of X G z_set
    z_sorted := PySem.W.mg_none_of X G z_sorted
    z_str := PySem.W.mg_none_of X G z_str
    z_tuple := PySem.W.mg_none_of X G z_tuple
    z_zip := PySem.W.mg_none_of X G z_zip
    avalues_of_rows := fvalues_of_rows
    dvalues_of_rows := _
    Fvalues_of_rows := fun_mk (st := svalues_of_rows) lvalues_of_rows cvalues_of_rows kvalues_of_rows
    mvalues_of_rows := PySem.W.mg_of X G avalues_of_rows
    a_successors_by := f_successors_by
    d_successors_by := _
    F_successors_by := fun_mk (st := s_successors_by) l_successors_by c_successors_by k_successors_by
    m_successors_by := PySem.W.mg_of X G a_successors_by
    a_least_rows := f_least_rows
    d_least_rows := _
    F_least_rows := fun_mk (st := s_least_rows) l_least_rows c_least_rows k_least_rows
    m_least_rows := PySem.W.mg_of X G a_least_rows
    astrategy_credit := fstrategy_credit
    dstrategy_credit := _
    Fstrategy_credit := fun_mk (st := sstrategy_credit) lstrategy_credit cstrategy_credit kstrategy_credit
    mstrategy_credit := PySem.W.mg_of X G astrategy_credit
    a_law_draws := f_law_draws
    d_law_draws := _
    F_law_draws := fun_mk (st := s_law_draws) l_law_draws c_law_draws k_law_draws
    m_law_draws := PySem.W.mg_of X G a_law_draws
    a_law_take := f_law_take
    d_law_take := _
    F_law_take := fun_mk (st := s_law_take) l_law_take c_law_take k_law_take
    m_law_take := PySem.W.mg_of X G a_law_take
    a_law_great := f_law_great
    d_law_great := _
    F_law_great := fun_mk (st := s_law_great) l_law_great c_law_great k_law_great
    m_law_great := PySem.W.mg_of X G a_law_great
    a_law_arena := f_law_arena
    d_law_arena := _
    F_law_arena := fun_mk (st := s_law_arena) l_law_arena c_law_arena k_law_arena
    m_law_arena := PySem.W.mg_of X G a_law_arena
    a_law_strategy := f_law_strategy
    d_law_strategy := _
    F_law_strategy := fun_mk (st := s_law_strategy) l_law_strategy c_law_strategy k_law_strategy
    m_law_strategy := PySem.W.mg_of X G a_law_strategy
    a_law_goal := f_law_goal
    d_law_goal := _
    F_law_goal := fun_mk (st := s_law_goal) l_law_goal c_law_goal k_law_goal
    m_law_goal := PySem.W.mg_of X G a_law_goal
    a_law_some := f_law_some
    d_law_some := _
    F_law_some := fun_mk (st := s_law_some) l_law_some c_law_some k_law_some
    m_law_some := PySem.W.mg_of X G a_law_some
    a_law_same := f_law_same
    d_law_same := _
    F_law_same := fun_mk (st := s_law_same) l_law_same c_law_same k_law_same
    m_law_same := PySem.W.mg_of X G a_law_same
    a_law_reached := f_law_reached
    d_law_reached := _
    F_law_reached := fun_mk (st := s_law_reached) l_law_reached c_law_reached k_law_reached
    m_law_reached := PySem.W.mg_of X G a_law_reached
    a_law_losses := f_law_losses
    d_law_losses := _
    F_law_losses := fun_mk (st := s_law_losses) l_law_losses c_law_losses k_law_losses
    m_law_losses := PySem.W.mg_of X G a_law_losses
    a_law_is_emptied := f_law_is_emptied
    d_law_is_emptied := _
    F_law_is_emptied := fun_mk (st := s_law_is_emptied) l_law_is_emptied c_law_is_emptied k_law_is_emptied
    m_law_is_emptied := PySem.W.mg_of X G a_law_is_emptied
    a_law_is_long_right := f_law_is_long_right
    d_law_is_long_right := _
    F_law_is_long_right := fun_mk (st := s_law_is_long_right) l_law_is_long_right c_law_is_long_right k_law_is_long_right
    m_law_is_long_right := PySem.W.mg_of X G a_law_is_long_right
    alaw := fa
    dlaw := _
    Flaw := fun_mk (st := slaw) llaw claw klaw
    mlaw := PySem.W.mg_of X G alaw }
  refine ⟨T.dlaw, fun s v => .of_eq rfl, fun base _ _ => ?_⟩
  exact ok_law T
end NL
open PySem PySem.W PyProof.Rows
set_option maxRecDepth 100000 in
set_option maxHeartbeats 0 in
theorem PySem.Challenge.cw_neverleaves_k97_whole_credits_of_strateg_holds : PySem.Challenge.rw_neverleaves_k97_whole_credits_of_strateg.Holds := by
  w_on; o_law; k_head; (case hw => w_witness2)
  k_fill
  refine L2.walk_of (l := PySem.Challenge.rw_neverleaves_k97_whole_credits_of_strateg) (n := 63) (k := 5) (x := "script") (CX := fun _ => L2.CX0) (sp := fun w => NL.spLaw _) rfl (by decide) rfl ⟨rfl, by decide, by decide⟩ (fun w h Y => PySem.W.kIn_of Y) ?F (fun _ _ a ns hl _ hS => ⟨a, ns, rfl, hS, hl, fun _ => rfl⟩) (fun _ _ _ _ _ h => h)
  case F =>
    intro w mg fa h KX G hmg
    refine' NL.all_mk KX G hmg  ?avalues_of_rows ?lvalues_of_rows ?cvalues_of_rows ?kvalues_of_rows ?a_successors_by ?l_successors_by ?c_successors_by ?k_successors_by ?a_least_rows ?l_least_rows ?c_least_rows ?k_least_rows ?astrategy_credit ?lstrategy_credit ?cstrategy_credit ?kstrategy_credit ?a_law_draws ?l_law_draws ?c_law_draws ?k_law_draws ?a_law_take ?l_law_take ?c_law_take ?k_law_take ?a_law_great ?l_law_great ?c_law_great ?k_law_great ?a_law_arena ?l_law_arena ?c_law_arena ?k_law_arena ?a_law_strategy ?l_law_strategy ?c_law_strategy ?k_law_strategy ?a_law_goal ?l_law_goal ?c_law_goal ?k_law_goal ?a_law_some ?l_law_some ?c_law_some ?k_law_some ?a_law_same ?l_law_same ?c_law_same ?k_law_same ?a_law_reached ?l_law_reached ?c_law_reached ?k_law_reached ?a_law_losses ?l_law_losses ?c_law_losses ?k_law_losses ?a_law_is_emptied ?l_law_is_emptied ?c_law_is_emptied ?k_law_is_emptied ?a_law_is_long_right ?l_law_is_long_right ?c_law_is_long_right ?k_law_is_long_right ?alaw ?llaw ?claw ?klaw  ?z_any ?z_bool ?z_int ?z_isinstance ?z_len ?z_list ?z_max ?z_min ?z_range ?z_set ?z_sorted ?z_str ?z_tuple ?z_zip
    (case avalues_of_rows => k_is); (case lvalues_of_rows => k_is); (case cvalues_of_rows => k_is); (case kvalues_of_rows => k_is)
    (case a_successors_by => k_is); (case l_successors_by => k_is); (case c_successors_by => k_is); (case k_successors_by => k_is)
    (case a_least_rows => k_is); (case l_least_rows => k_is); (case c_least_rows => k_is); (case k_least_rows => k_is)
    (case astrategy_credit => k_is); (case lstrategy_credit => k_is); (case cstrategy_credit => k_is); (case kstrategy_credit => k_is)
    (case a_law_draws => k_is); (case l_law_draws => k_is); (case c_law_draws => k_is); (case k_law_draws => k_is)
    (case a_law_take => k_is); (case l_law_take => k_is); (case c_law_take => k_is); (case k_law_take => k_is)
    (case a_law_great => k_is); (case l_law_great => k_is); (case c_law_great => k_is); (case k_law_great => k_is)
    (case a_law_arena => k_is); (case l_law_arena => k_is); (case c_law_arena => k_is); (case k_law_arena => k_is)
    (case a_law_strategy => k_is); (case l_law_strategy => k_is); (case c_law_strategy => k_is); (case k_law_strategy => k_is)
    (case a_law_goal => k_is); (case l_law_goal => k_is); (case c_law_goal => k_is); (case k_law_goal => k_is)
    (case a_law_some => k_is); (case l_law_some => k_is); (case c_law_some => k_is); (case k_law_some => k_is)
    (case a_law_same => k_is); (case l_law_same => k_is); (case c_law_same => k_is); (case k_law_same => k_is)
    (case a_law_reached => k_is); (case l_law_reached => k_is); (case c_law_reached => k_is); (case k_law_reached => k_is)
    (case a_law_losses => k_is); (case l_law_losses => k_is); (case c_law_losses => k_is); (case k_law_losses => k_is)
    (case a_law_is_emptied => k_is); (case l_law_is_emptied => k_is); (case c_law_is_emptied => k_is); (case k_law_is_emptied => k_is)
    (case a_law_is_long_right => k_is); (case l_law_is_long_right => k_is); (case c_law_is_long_right => k_is); (case k_law_is_long_right => k_is)
    (case alaw => k_is); (case llaw => k_is); (case claw => k_is); (case klaw => k_is)
    (case z_any => k_is)
    (case z_bool => k_is)
    (case z_int => k_is)
    (case z_isinstance => k_is)
    (case z_len => k_is)
    (case z_list => k_is)
    (case z_max => k_is)
    (case z_min => k_is)
    (case z_range => k_is)
    (case z_set => k_is)
    (case z_sorted => k_is)
    (case z_str => k_is)
    (case z_tuple => k_is)
    (case z_zip => k_is)
