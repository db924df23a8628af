import PyProof.Rows.All
import Wide.All
import OpenK.AllK
import Wide.FinOn
import HandS.ForExc
import HandS.ForMost
import HandS.TupAny
import HandS.IsInst
import HandS.Codes
import HandS.FStr
import HandS.Zip
import HandS.TupSets
import HandS.SetFor
import HandS.Strs
import HandS.More
import HandS.DictComp
import HandS.Walk
import HandS.Conv
import KE.KxIndex
import PySem.Challenge.RW_neverleaves_k72_least_bad_rows
set_option Elab.async false
set_option linter.all false
set_option maxRecDepth 100000

namespace NL
open PySem PySem.Spec PyProof.Rows L2
def topS (i : Nat) : Stmt := PySem.Challenge.pw_neverleaves_k72_least_bad_rows.main.body.getD i (.Pass ⟨0, 0, 0, 0⟩)
abbrev s_successors_by : Stmt := topS 1
abbrev N_successors_by : List Str := ["arena", "strategy", "index", "options"]
abbrev P_successors_by : List Str := ["arena", "strategy"]
theorem sc_successors_by : FnScope N_successors_by P_successors_by (defScope s_successors_by) := ⟨rfl, rfl, rfl, by decide +kernel, rfl, by decide +kernel, by decide +kernel⟩
abbrev s_least_rows : Stmt := topS 2
abbrev N_least_rows : List Str := ["successors", "starts", "rows", "start", "waiting", "found", "place", "after"]
abbrev P_least_rows : List Str := ["successors", "starts"]
theorem sc_least_rows : FnScope N_least_rows P_least_rows (defScope s_least_rows) := ⟨rfl, rfl, rfl, by decide +kernel, rfl, by decide +kernel, by decide +kernel⟩
abbrev sleast_bad_row : Stmt := topS 3
abbrev Nleast_bad_row : List Str := ["arena", "keep", "strategy", "start", "successors", "rows", "place"]
abbrev Pleast_bad_row : List Str := ["arena", "keep", "strategy", "start"]
theorem scleast_bad_row : FnScope Nleast_bad_row Pleast_bad_row (defScope sleast_bad_row) := ⟨rfl, rfl, rfl, by decide +kernel, rfl, by decide +kernel, by decide +kernel⟩
abbrev s_law_draws : Stmt := topS 5
abbrev N_law_draws : List Str := ["script", "many", "cells", "cell", "rest", "draws", "k", "at", "once"]
abbrev P_law_draws : List Str := ["script", "many"]
theorem sc_law_draws : FnScope N_law_draws P_law_draws (defScope s_law_draws) := ⟨rfl, rfl, rfl, by decide +kernel, rfl, by decide +kernel, by decide +kernel⟩
abbrev s_law_take : Stmt := topS 6
abbrev N_law_take : List Str := ["draws", "many"]
abbrev P_law_take : List Str := ["draws", "many"]
theorem sc_law_take : FnScope N_law_take P_law_take (defScope s_law_take) := ⟨rfl, rfl, rfl, by decide +kernel, rfl, by decide +kernel, by decide +kernel⟩
abbrev s_law_great : Stmt := topS 7
abbrev N_law_great : List Str := ["draws", "size", "a", "b", "c", "bad", "arena", "k", "options"]
abbrev P_law_great : List Str := ["draws"]
theorem sc_law_great : FnScope N_law_great P_law_great (defScope s_law_great) := ⟨rfl, rfl, rfl, by decide +kernel, rfl, by decide +kernel, by decide +kernel⟩
abbrev s_law_arena : Stmt := topS 8
abbrev N_law_arena : List Str := ["draws", "most", "shape", "rare", "menu", "count", "arena", "k", "options", "j", "found", "i", "drawn", "successor", "at", "more"]
abbrev P_law_arena : List Str := ["draws", "most"]
theorem sc_law_arena : FnScope N_law_arena P_law_arena (defScope s_law_arena) := ⟨rfl, rfl, rfl, by decide +kernel, rfl, by decide +kernel, by decide +kernel⟩
abbrev s_law_some : Stmt := topS 9
abbrev N_law_some : List Str := ["draws", "arena", "share", "step", "first", "k"]
abbrev P_law_some : List Str := ["draws", "arena", "share"]
theorem sc_law_some : FnScope N_law_some P_law_some (defScope s_law_some) := ⟨rfl, rfl, rfl, by decide +kernel, rfl, by decide +kernel, by decide +kernel⟩
abbrev s_law_strategy : Stmt := topS 10
abbrev N_law_strategy : List Str := ["draws", "arena", "first", "step", "rare", "plain", "found", "k", "number"]
abbrev P_law_strategy : List Str := ["draws", "arena"]
theorem sc_law_strategy : FnScope N_law_strategy P_law_strategy (defScope s_law_strategy) := ⟨rfl, rfl, rfl, by decide +kernel, rfl, by decide +kernel, by decide +kernel⟩
abbrev s_law_distances : Stmt := topS 11
abbrev N_law_distances : List Str := ["arena", "keep", "strategy", "found", "at", "rank", "before", "reply"]
abbrev P_law_distances : List Str := ["arena", "keep", "strategy"]
theorem sc_law_distances : FnScope N_law_distances P_law_distances (defScope s_law_distances) := ⟨rfl, rfl, rfl, by decide +kernel, rfl, by decide +kernel, by decide +kernel⟩
abbrev s_law_bad_row : Stmt := topS 12
abbrev N_law_bad_row : List Str := ["arena", "strategy", "distances", "start", "row", "at", "left", "good", "reply"]
abbrev P_law_bad_row : List Str := ["arena", "strategy", "distances", "start"]
theorem sc_law_bad_row : FnScope N_law_bad_row P_law_bad_row (defScope s_law_bad_row) := ⟨rfl, rfl, rfl, by decide +kernel, rfl, by decide +kernel, by decide +kernel⟩
abbrev s_law_same : Stmt := topS 13
abbrev N_law_same : List Str := ["actual", "due", "k"]
abbrev P_law_same : List Str := ["actual", "due"]
theorem sc_law_same : FnScope N_law_same P_law_same (defScope s_law_same) := ⟨rfl, rfl, rfl, by decide +kernel, rfl, by decide +kernel, by decide +kernel⟩
abbrev slaw : Stmt := topS 14
abbrev Nlaw : List Str := ["script", "draws", "arena", "keep", "strategies", "whole", "case", "distances", "many", "k", "start", "due"]
abbrev Plaw : List Str := ["script"]
theorem sclaw : FnScope Nlaw Plaw (defScope slaw) := ⟨rfl, rfl, rfl, by decide +kernel, rfl, by decide +kernel, by decide +kernel⟩
def KT (K : PySem.W.Frag) (a : Addr) (ys : List V) : Prop := ∃ o its n, List.lookup a K = some o ∧ o.cls = .type "tuple" ∧ o.data = .seq its n ∧ its.size ≤ sizeLine ∧ L2.Vals ys its.toList
theorem kt_mk {K : PySem.W.Frag} {a : Addr} {ys : List V} {o : Obj} {its : Array Value} {n : Nat} (h1 : List.lookup a K = some o) (h2 : o.cls = .type "tuple") (h3 : o.data = .seq its n) (h4 : its.size ≤ sizeLine) (h5 : L2.Vals ys its.toList) : KT K a ys := ⟨o, its, n, h1, h2, h3, h4, h5⟩
structure Txt (K : PySem.W.Frag) (mg : Str → Option Value) where
  z_bool : mg "bool" = none
  z_int : mg "int" = none
  z_isinstance : mg "isinstance" = none
  z_len : mg "len" = none
  z_list : mg "list" = none
  z_min : mg "min" = none
  z_range : mg "range" = none
  z_set : mg "set" = none
  z_sorted : mg "sorted" = none
  z_str : mg "str" = none
  z_tuple : mg "tuple" = none
  z_zip : mg "zip" = none
  a_successors_by : Addr
  d_successors_by : FuncData
  F_successors_by : Fun K "_successors_by" "_successors_by" s_successors_by a_successors_by d_successors_by
  m_successors_by : mg "_successors_by" = some (.ref a_successors_by)
  a_least_rows : Addr
  d_least_rows : FuncData
  F_least_rows : Fun K "_least_rows" "_least_rows" s_least_rows a_least_rows d_least_rows
  m_least_rows : mg "_least_rows" = some (.ref a_least_rows)
  aleast_bad_row : Addr
  dleast_bad_row : FuncData
  Fleast_bad_row : Fun K "least_bad_row" "least_bad_row" sleast_bad_row aleast_bad_row dleast_bad_row
  mleast_bad_row : mg "least_bad_row" = some (.ref aleast_bad_row)
  a_law_draws : Addr
  d_law_draws : FuncData
  F_law_draws : Fun K "_law_draws" "_law_draws" s_law_draws a_law_draws d_law_draws
  m_law_draws : mg "_law_draws" = some (.ref a_law_draws)
  a_law_take : Addr
  d_law_take : FuncData
  F_law_take : Fun K "_law_take" "_law_take" s_law_take a_law_take d_law_take
  m_law_take : mg "_law_take" = some (.ref a_law_take)
  a_law_great : Addr
  d_law_great : FuncData
  F_law_great : Fun K "_law_great" "_law_great" s_law_great a_law_great d_law_great
  m_law_great : mg "_law_great" = some (.ref a_law_great)
  a_law_arena : Addr
  d_law_arena : FuncData
  F_law_arena : Fun K "_law_arena" "_law_arena" s_law_arena a_law_arena d_law_arena
  m_law_arena : mg "_law_arena" = some (.ref a_law_arena)
  a_law_some : Addr
  d_law_some : FuncData
  F_law_some : Fun K "_law_some" "_law_some" s_law_some a_law_some d_law_some
  m_law_some : mg "_law_some" = some (.ref a_law_some)
  a_law_strategy : Addr
  d_law_strategy : FuncData
  F_law_strategy : Fun K "_law_strategy" "_law_strategy" s_law_strategy a_law_strategy d_law_strategy
  m_law_strategy : mg "_law_strategy" = some (.ref a_law_strategy)
  a_law_distances : Addr
  d_law_distances : FuncData
  F_law_distances : Fun K "_law_distances" "_law_distances" s_law_distances a_law_distances d_law_distances
  m_law_distances : mg "_law_distances" = some (.ref a_law_distances)
  a_law_bad_row : Addr
  d_law_bad_row : FuncData
  F_law_bad_row : Fun K "_law_bad_row" "_law_bad_row" s_law_bad_row a_law_bad_row d_law_bad_row
  m_law_bad_row : mg "_law_bad_row" = some (.ref a_law_bad_row)
  a_law_same : Addr
  d_law_same : FuncData
  F_law_same : Fun K "_law_same" "_law_same" s_law_same a_law_same d_law_same
  m_law_same : mg "_law_same" = some (.ref a_law_same)
  alaw : Addr
  dlaw : FuncData
  Flaw : Fun K "law" "law" slaw alaw dlaw
  mlaw : mg "law" = some (.ref alaw)
theorem Txt.b_successors_by {K : PySem.W.Frag} {mg : Str → Option Value} (T : Txt K mg) : Binds K T.d_successors_by P_successors_by [] := T.F_successors_by.binds fun _ _ _ _ _ _ us hl => match us, hl with | [_, _], _ => rfl
theorem Txt.b_least_rows {K : PySem.W.Frag} {mg : Str → Option Value} (T : Txt K mg) : Binds K T.d_least_rows P_least_rows [] := T.F_least_rows.binds fun _ _ _ _ _ _ us hl => match us, hl with | [_, _], _ => rfl
theorem Txt.bleast_bad_row {K : PySem.W.Frag} {mg : Str → Option Value} (T : Txt K mg) : Binds K T.dleast_bad_row Pleast_bad_row [] := T.Fleast_bad_row.binds fun _ _ _ _ _ _ us hl => match us, hl with | [_, _, _, _], _ => rfl
theorem Txt.b_law_draws {K : PySem.W.Frag} {mg : Str → Option Value} (T : Txt K mg) : Binds K T.d_law_draws P_law_draws [] := T.F_law_draws.binds fun _ _ _ _ _ _ us hl => match us, hl with | [_, _], _ => rfl
theorem Txt.b_law_take {K : PySem.W.Frag} {mg : Str → Option Value} (T : Txt K mg) : Binds K T.d_law_take P_law_take [] := T.F_law_take.binds fun _ _ _ _ _ _ us hl => match us, hl with | [_, _], _ => rfl
theorem Txt.b_law_great {K : PySem.W.Frag} {mg : Str → Option Value} (T : Txt K mg) : Binds K T.d_law_great P_law_great [] := T.F_law_great.binds fun _ _ _ _ _ _ us hl => match us, hl with | [_], _ => rfl
theorem Txt.b_law_arena {K : PySem.W.Frag} {mg : Str → Option Value} (T : Txt K mg) : Binds K T.d_law_arena P_law_arena [] := T.F_law_arena.binds fun _ _ _ _ _ _ us hl => match us, hl with | [_, _], _ => rfl
theorem Txt.b_law_some {K : PySem.W.Frag} {mg : Str → Option Value} (T : Txt K mg) : Binds K T.d_law_some P_law_some [] := T.F_law_some.binds fun _ _ _ _ _ _ us hl => match us, hl with | [_, _, _], _ => rfl
theorem Txt.b_law_strategy {K : PySem.W.Frag} {mg : Str → Option Value} (T : Txt K mg) : Binds K T.d_law_strategy P_law_strategy [] := T.F_law_strategy.binds fun _ _ _ _ _ _ us hl => match us, hl with | [_, _], _ => rfl
theorem Txt.b_law_distances {K : PySem.W.Frag} {mg : Str → Option Value} (T : Txt K mg) : Binds K T.d_law_distances P_law_distances [] := T.F_law_distances.binds fun _ _ _ _ _ _ us hl => match us, hl with | [_, _, _], _ => rfl
theorem Txt.b_law_bad_row {K : PySem.W.Frag} {mg : Str → Option Value} (T : Txt K mg) : Binds K T.d_law_bad_row P_law_bad_row [] := T.F_law_bad_row.binds fun _ _ _ _ _ _ us hl => match us, hl with | [_, _, _, _], _ => rfl
theorem Txt.b_law_same {K : PySem.W.Frag} {mg : Str → Option Value} (T : Txt K mg) : Binds K T.d_law_same P_law_same [] := T.F_law_same.binds fun _ _ _ _ _ _ us hl => match us, hl with | [_, _], _ => rfl
theorem Txt.blaw {K : PySem.W.Frag} {mg : Str → Option Value} (T : Txt K mg) : Binds K T.dlaw Plaw [] := T.Flaw.binds fun _ _ _ _ _ _ us hl => match us, hl with | [_], _ => rfl
end NL

namespace NL
open PySem PySem.Spec PyProof.Rows L2

/-! ### frames: what stays while the list of draws at d is used up -/
structure Go (d : Addr) (H H' : Hp) : Prop where
  fr : ∀ b o, b ≠ d → H b = some o → H' b = some o
  dr : ∃ ns : List Int, H' d = some (.lst (ns.map V.int))
abbrev Dr (H : Hp) (d : Addr) : Prop := ∃ ns : List Int, H d = some (.lst (ns.map V.int))
theorem Go.refl {d : Addr} {H : Hp} (h : Dr H d) : Go d H H := ⟨fun _ _ _ e => e, h⟩
theorem Go.trans {d : Addr} {H H1 H2 : Hp} (a : Go d H H1) (b : Go d H1 H2) : Go d H H2 := ⟨fun c o n e => b.fr c o n (a.fr c o n e), b.dr⟩
theorem Go.new {d p : Addr} {H : Hp} {o : HO} (h : Dr H d) (hp : H p = none) : Go d H (upd H p o) := by
  obtain ⟨ns, e⟩ := h
  have n : d ≠ p := ne_of_none e hp
  exact ⟨fun b u _ q => by rw [upd_ne (ne_of_none q hp)]; exact q, ⟨ns, by rw [upd_ne n]; exact e⟩⟩
theorem Go.put {d : Addr} {H : Hp} (ns : List Int) : Go d H (upd H d (.lst (ns.map V.int))) := ⟨fun b u n q => by rw [upd_ne n]; exact q, ⟨ns, upd_same⟩⟩
theorem Go.same {d : Addr} {H H' : Hp} (h : Dr H d) (s : Same H H') : Go d H H' := ⟨fun b o _ e => s b o e, by obtain ⟨ns, e⟩ := h; exact ⟨ns, s _ _ e⟩⟩
theorem Go.tup {d a : Addr} {H H' : Hp} {xs : List V} (g : Go d H H') (h : Dr H d) (e : H a = some (.tup xs)) : H' a = some (.tup xs) := by
  refine g.fr a _ ?_ e
  rintro rfl
  obtain ⟨ns, q⟩ := h
  rw [e] at q; cases q
theorem same_new {H : Hp} {p : Addr} (h : H p = none) (o : HO) : Same H (upd H p o) := fun b u q => by rw [upd_ne (ne_of_none q h)]; exact q
/-- all tuples stay -/
def Tp (H H' : Hp) : Prop := ∀ a xs, H a = some (.tup xs) → H' a = some (.tup xs)
theorem Go.tp {d : Addr} {H H' : Hp} (g : Go d H H') (h : Dr H d) : Tp H H' := fun _ _ e => g.tup h e
theorem Tp.same {H H' : Hp} (s : Same H H') : Tp H H' := fun _ _ e => s _ _ e
theorem Tp.trans {H H1 H2 : Hp} (a : Tp H H1) (b : Tp H1 H2) : Tp H H2 := fun x y e => b x y (a x y e)
theorem Tp.refl {H : Hp} : Tp H H := fun _ _ e => e
/-- a list that stays readable whatever is drawn at d -/
def Keep (K : PySem.W.Frag) (d : Addr) (H : Hp) (a : Addr) (xs : List V) : Prop := ∀ H', (∀ b o, b ≠ d → H b = some o → H' b = some o) → SqL K H' a xs
theorem Keep.now {K : PySem.W.Frag} {d a : Addr} {H : Hp} {xs : List V} (k : Keep K d H a xs) : SqL K H a xs := k H fun _ _ _ e => e
theorem Keep.go {K : PySem.W.Frag} {d a : Addr} {H H' : Hp} {xs : List V} (k : Keep K d H a xs) (g : Go d H H') : Keep K d H' a xs := fun H2 f => k H2 fun b o n e => f b o n (g.fr b o n e)
theorem Keep.of {K : PySem.W.Frag} {d a : Addr} {H : Hp} {xs : List V} (n : a ≠ d) (h : H a = some (.lst xs)) : Keep K d H a xs := fun H' f => .inl (.inl (f a _ n h))
/-- what was read ahead of the draws' list stays -/
theorem Keep.old {K : PySem.W.Frag} {d a : Addr} {H0 H : Hp} {xs : List V} (h : SqL K H0 a xs) (hd : H0 d = none) (f : ∀ b o, H0 b = some o → H b = some o) : Keep K d H a xs := fun H' g => by
  rcases h with (h | ⟨o, h⟩) | h
  · exact .inl (.inl (g a _ (ne_of_none h hd) (f _ _ h)))
  · exact .inl (.inr ⟨o, g a _ (ne_of_none h hd) (f _ _ h)⟩)
  · exact .inr h

/-! ### rules whose written part is named (in a comprehension) -/
theorem ix_tupK {X : Cx} {K : PySem.W.Frag} (h : X.K = K) : IxR X (rIxT K) := by subst h; exact ix_tup
theorem ix_listK {X : Cx} {K : PySem.W.Frag} (h : X.K = K) : IxR X (rIxL K) := by subst h; exact ix_list
def rTupOf (K : PySem.W.Frag) : List V → Hp → VK → Prop := fun xs H Q => ∃ p ys, xs = [.ref p] ∧ ((SqL K H p ys ∧ ∀ l, H l = none → Q (.ref l) (upd H l (.tup ys))) ∨ (SqT K H p ys ∧ Q (.ref p) H))
theorem call_tuple_ofK {X : Cx} {K : PySem.W.Frag} (h : X.K = K) : CallR X (.type "tuple") (rTupOf K) := by subst h; exact call_tuple_of
/-! ### texts and words -/
/-- signs a to z alone -/
def Wd (z : Str) : Prop := ∀ c ∈ z.cps.toList, 97 ≤ c ∧ c ≤ 122
instance (z : Str) : Decidable (Wd z) := by unfold Wd; infer_instance
def res : List Str := ["true", "false", "add", "sub", "mul", "div", "mod", "min", "max", "abs", "if", "less", "equal", "not", "all", "any"]
theorem app_list (a b : Str) : (a ++ b).cps.toList = a.cps.toList ++ b.cps.toList := by
  show (a.cps ++ b.cps).toList = _
  simp
theorem len_list (a : Str) : a.length = a.cps.toList.length := by
  show a.cps.size = _
  simp
theorem len_app (a b : Str) : (a ++ b).length = a.length + b.length := by
  rw [len_list, app_list, List.length_append, ← len_list, ← len_list]
theorem str_ext {a b : Str} (h : a.cps.toList = b.cps.toList) : a = b := by
  cases a with | mk x => cases b with | mk y =>
  have : x = y := Array.toList_inj.mp h
  rw [this]
theorem Wd.app {a b : Str} (ha : Wd a) (hb : Wd b) : Wd (a ++ b) := fun c hc => by
  rw [app_list] at hc
  rcases List.mem_append.mp hc with h | h
  · exact ha c h
  · exact hb c h
structure Nam (z : Str) : Prop where
  wd : Wd z
  len : 0 < z.length ∧ z.length ≤ 200
  nr : z ∉ res
structure Nm (z : Str) : Prop where
  wd : Wd z
  len : 0 < z.length ∧ z.length ≤ 150

/-! ### lists at an index -/
theorem atI_mem {α : Type} {xs : List α} {i : Int} (h0 : 0 ≤ i) (h1 : i < xs.length) : ∃ v, atI xs i = some v ∧ v ∈ xs := by
  have hk : i.toNat < xs.length := by omega
  have ek : i = ((i.toNat : Nat) : Int) := by omega
  have q : atI xs ((i.toNat : Nat) : Int) = some xs[i.toNat] := atI_nat (List.getElem?_eq_getElem hk)
  rw [← ek] at q
  exact ⟨_, q, List.getElem_mem hk⟩
theorem atI_map {α β : Type} {f : α → β} {xs : List α} {i : Int} (h0 : 0 ≤ i) (h1 : i < xs.length) : ∃ v, atI (xs.map f) i = some (f v) ∧ v ∈ xs := by
  obtain ⟨v, h, m⟩ := atI_mem (xs := xs.map f) h0 (by rw [List.length_map]; exact h1)
  obtain ⟨u, hu, rfl⟩ := List.mem_map.mp m
  exact ⟨u, h, hu⟩
theorem sqd {K : PySem.W.Frag} {H : Hp} {a : Addr} {xs : List V} (h : H a = some (.lst xs)) : SqL K H a xs := .inl (.inl h)
theorem sqt {K : PySem.W.Frag} {H : Hp} {a : Addr} {xs : List V} (h : H a = some (.tup xs)) : SqT K H a xs := .inl (.inl h)
theorem int_eq {i j : Int} (h : decide (V.int i = V.int j) = true) : i = j := V.int.inj (of_decide_eq_true h)
theorem int_ne {i j : Int} (h : ¬ decide (V.int i = V.int j) = true) : i ≠ j := fun e => h (decide_eq_true (by rw [e]))
section
variable {P : Program} {w : World} {K : PySem.W.Frag} {mg : Str → Option Value} {base : Heap}
/-! ### _law_take -/
def spTake : Sp := fun vs H Q _ => ∃ (d : Addr) (m : Int), vs = [.ref d, .int m] ∧ Dr H d ∧ 0 < m ∧ ∀ r H', Go d H H' → 0 ≤ r → r < m → Q (.int r) H'
theorem ok_law_take (T : Txt K mg) : FnOk P w K mg base CX0 1 T.a_law_take T.d_law_take P_law_take spTake := by
  refine T.F_law_take.ok sc_law_take (fun vs H Q E h => ?_) (fun cdv A outer s H vs Q E hr h => ?_)
  · obtain ⟨d, m, rfl, _⟩ := h
    rfl
  obtain ⟨d, m, rfl, hD, hm, q⟩ := h
  refine ⟨_, (pss_cons (ps_if (pt_cmpR op_eq (pe_callB call_len_seq (by rfl) T.z_len PySem.boot_len (pa_cons (pv 0) pa_nil)) pe_int (nomark _))
    (pss_one (ps_ret pe_int))
    pss_nil)
    (pss_one (ps_ret (pe_op op_mod (pe_callTy call_int1 (by rfl) T.z_int (by decide +kernel) (pa_cons (pe_bm0 PySem.F.plainAttrs_list PySem.F.slot_list_pop PySem.F.type_list_pop mt_pop (pv 0)) pa_nil)) (pv 1))))), ?_⟩
  obtain ⟨ns, hd⟩ := hD
  refine ⟨_, rfl, _, _, rfl, .inl (sqd hd), rfl, _, rfl, ?_⟩
  refine ite2 (fun c => ?_) (fun c => ?_)
  · exact q 0 H (Go.refl ⟨ns, hd⟩) (Int.le_refl 0) hm
  · have hn := int_ne c
    rw [List.length_map] at hn
    have hz : ns ≠ [] := by
      rintro rfl
      exact hn rfl
    have hl : 0 < ns.length := List.length_pos_iff.mpr hz
    have he : (ns.map V.int)[(ns.map V.int).length - 1]? = some (.int ns[ns.length - 1]) := by
      rw [List.length_map, List.getElem?_map, List.getElem?_eq_getElem (by omega)]
      rfl
    refine ⟨_, rfl, .inl ⟨rfl, _, sqd hd⟩, _, _, _, rfl, rfl, hd, he, .inl ⟨_, rfl, ?_⟩⟩
    refine ⟨_, rfl, _, _, rfl, rfl, hm, ?_⟩
    refine q _ _ ?_ (Int.emod_nonneg _ (by omega)) (Int.emod_lt_of_pos _ hm)
    rw [← List.map_dropLast]
    exact Go.put _
end
end NL

namespace NL
open PySem PySem.Spec PyProof.Rows L2
theorem yes_if {σ : L2.St} {H : Hp} {a n : Hp → Prop} (h : a H) : tYes σ H (fun b H3 => if b = true then a H3 else n H3) := by
  show (if true = true then a H else n H)
  rw [if_pos rfl]
  exact h
/-- one reading for two ways -/
theorem cutP {B C : Prop} (f : B → C) (b : B) : C := f b
theorem ifT {c : Bool} {A B : Prop} (h : c = true) (a : A) : if c = true then A else B := by
  rw [if_pos h]; exact a
theorem ifF {c : Bool} {A B : Prop} (h : c = false) (b : B) : if c = true then A else B := by
  rw [if_neg (by rw [h]; exact Bool.false_ne_true)]; exact b
theorem atI0 {α : Type} {x : α} {r : List α} : atI (x :: r) 0 = some x := atI_nat (j := 0) rfl
theorem atI1 {α : Type} {x y : α} {r : List α} : atI (x :: y :: r) 1 = some y := atI_nat (j := 1) rfl
theorem boolE {Q : VK} {b b' : Bool} {H : Hp} (h : b = b') (q : Q (.bl b') H) : Q (.bl b) H := by rw [h]; exact q
theorem big {n : Nat} (h : n ≤ 1000000) : n ≤ sizeLine := Nat.le_trans h (by decide)
theorem big' {n : Nat} (h : n ≤ 1000000) : n < sizeLine := Nat.lt_of_le_of_lt h (by decide)
theorem int_in {x : Int} {l : List Int} : inV (.int x) (l.map V.int) = decide (x ∈ l) := by
  unfold inV
  rw [List.any_map]
  induction l with
  | nil => rfl
  | cons a r ih =>
    rw [List.any_cons, ih]
    show (eqV (.int a) (.int x) || _) = _
    have e : eqV (.int a) (.int x) = decide (x = a) := by
      show (a == x) = _
      rw [Bool.beq_eq_decide_eq]
      exact decide_eq_decide.mpr ⟨fun h => h.symm, fun h => h.symm⟩
    rw [e, ← Bool.decide_or]
    exact decide_eq_decide.mpr List.mem_cons.symm
theorem flat_ints' (l : List Int) : (l.map V.int).all flatV = true := by
  induction l with
  | nil => rfl
  | cons a r ih => rw [List.map_cons, List.all_cons, ih]; rfl
theorem notIn_int {x : Int} {l : List Int} : (if true = true then !inV (V.int x) (l.map V.int) else inV (V.int x) (l.map V.int)) = !decide (x ∈ l) := by
  rw [if_pos rfl, int_in]
def rLenK (K : PySem.W.Frag) : List V → Hp → VK → Prop := fun xs H Q => ∃ p ys, xs = [.ref p] ∧ (SqL K H p ys ∨ SqT K H p ys) ∧ Q (.int (ys.length : Nat)) H
theorem call_len_seqK {X : Cx} {K : PySem.W.Frag} (h : X.K = K) : CallR X (.builtin "len") (rLenK K) := by
  subst h
  exact call_len_seq
end NL

namespace NL
open PySem PySem.Spec PyProof.Rows L2
theorem ixN_in {n : Nat} {k : Int} (h0 : 0 ≤ k) (h1 : k < n) : ixN n k = some k.toNat := by
  unfold ixN
  rw [if_pos h0, if_pos h1]
/-- a change at what was not there before -/
theorem same_put {H H' : Hp} {p : Addr} {o : HO} (s : Same H H') (hp : H p = none) : Same H (upd H' p o) := fun b u e => by
  rw [upd_ne (ne_of_none e hp)]
  exact s b u e
section
variable {P : Program} {w : World} {K : PySem.W.Frag} {mg : Str → Option Value} {base : Heap}
def spDraws (K : PySem.W.Frag) : Sp := fun vs H Q _ => ∃ (a : Addr) (ns : List Int) (m : Int), vs = [.ref a, .int m] ∧ SqL K H a (ns.map V.int) ∧ ns.length ≤ 63 ∧ 0 ≤ m ∧ m ≤ 10000 ∧
  ∀ d H', Same H H' → H d = none → Dr H' d → Q (.ref d) H'
theorem ok_law_draws (T : Txt K mg) : FnOk P w K mg base CX0 1 T.a_law_draws T.d_law_draws P_law_draws (spDraws K) := by
  refine T.F_law_draws.ok sc_law_draws (fun vs H Q E h => ?_) (fun cdv A outer s H vs Q E hr h => ?_)
  · obtain ⟨a, ns, m, rfl, _⟩ := h
    rfl
  obtain ⟨a, ns, m, rfl, hS, hl, m0, m1, q⟩ := h
  refine ⟨_, (pss_cons (ps_setLc (i := 2) (own := [("cell", 3)]) (g := (gName 3)) (tt := tYes) rfl sc_law_draws.nd rfl rfl (sw_true rfl rfl rfl (by decide +kernel)) (pi_list (pv 0)) (blkOk_by (N := N_law_draws) (sc := defScope s_law_draws) (by decide +kernel)) (fun _ _ _ _ _ => (pg_name (i := 3) sc_law_draws.nd rfl (Or.inl rfl))) (fun _ _ _ _ _ => pts_nil) (fun _ _ _ _ _ => (pe_callTy call_int1 (by rfl) T.z_int (by decide +kernel) (pa_cons (pv 3) pa_nil))))
    (C8.pss_cut (ps_if (pt_cmpR op_eq (pe_callB call_len_seq (by rfl) T.z_len PySem.boot_len (pa_cons (pv 2) pa_nil)) pe_int (nomark _))
    (pss_one (ps_expr (pe_bm PySem.F.plainAttrs_list PySem.F.slot_list_append PySem.F.type_list_append mt_append (pv 2) (pa_cons pe_int pa_nil))))
    pss_nil)
    (pss_cons (ps_set (i := 4) sc_law_draws.nd rfl (Or.inl rfl) (pe_callTy call_list_of (by rfl) T.z_list (by decide +kernel) (pa_cons (pv 2) pa_nil)))
    (pss_cons (ps_set (i := 5) sc_law_draws.nd rfl (Or.inl rfl) (pe_lst pa_nil))
    (pss_cons (ps_for  PassesOwn.never rfl (pi_range1 (by rfl) T.z_range (pa_cons (pv 1) pa_nil)) (pg_name (i := 6) sc_law_draws.nd rfl (Or.inl rfl))
    (pss_cons (ps_set (i := 7) sc_law_draws.nd rfl (Or.inl rfl) (pe_op op_mod (pv 6) (pe_callB call_len_seq (by rfl) T.z_len PySem.boot_len (pa_cons (pv 2) pa_nil))))
    (pss_one (ps_if (pt_cmpR op_ge (pe_ix ix_list (pv 2) (pv 7) (fun _ _ => rfl)) (pe_op op_pow pe_int pe_int) (nomark _))
    (pss_cons (ps_expr (pe_bm PySem.F.plainAttrs_list PySem.F.slot_list_append PySem.F.type_list_append mt_append (pv 5) (pa_cons (pe_op op_mod (pe_callTy call_int1 (by rfl) T.z_int (by decide +kernel) (pa_cons (pe_ix ix_list (pv 4) (pv 7) (fun _ _ => rfl)) pa_nil)) pe_int) pa_nil)))
    (pss_one (ps_asg (pe_op op_fdiv (pe_ix ix_list (pv 4) (pv 7) (fun _ _ => rfl)) pe_int) (pg_sub (pv 4) (pv 7) set_list))))
    (pss_cons (ps_set (i := 8) sc_law_draws.nd rfl (Or.inl rfl) (pe_op op_mod (pe_callTy call_int1 (by rfl) T.z_int (by decide +kernel) (pa_cons (pe_op op_add (pe_op op_add (pe_op op_mul (pe_ix ix_list (pv 2) (pv 7) (fun _ _ => rfl)) pe_int) (pe_op op_mul (pv 6) pe_int)) pe_int) pa_nil)) pe_int))
    (pss_one (ps_expr (pe_bm PySem.F.plainAttrs_list PySem.F.slot_list_append PySem.F.type_list_append mt_append (pv 5) (pa_cons (pe_op op_mod (pe_callTy call_int1 (by rfl) T.z_int (by decide +kernel) (pa_cons (pe_op op_add (pe_op op_add (pe_op op_mul (pv 8) (pv 8)) (pe_op op_mul pe_int (pv 8))) (pv 6)) pa_nil)) pe_int) pa_nil)))))))))
    (pss_cons (ps_expr (pe_bm0 PySem.F.plainAttrs_list PySem.F.slot_list_reverse PySem.F.type_list_reverse mt_reverse (pv 5)))
    (pss_one (ps_ret (pv 5))))))))), ?_⟩
  -- cells
  refine ⟨_, rfl, a, rfl, ⟨_, hS⟩, fun c hc => ?_⟩
  refine lc_list (K := K) (a := a) (xs := ns.map V.int) (fun (j : Nat) (H' : Hp) => Same H H' ∧ H' c = some (.lst ((ns.take j).map V.int))) ?_ ?_ ?_ ?_
  · exact ⟨same_new hc _, by rw [upd_same, List.take_zero]; rfl⟩
  · rintro i H' _ ⟨s1, _⟩
    exact s1.seq hS
  · rintro i x H' hx ⟨s1, e1⟩
    rw [List.getElem?_map] at hx
    cases hn : ns[i]? with
    | none => rw [hn] at hx; cases hx
    | some n =>
      rw [hn] at hx
      obtain rfl : V.int n = x := Option.some.inj hx
      refine ⟨rfl, yes_if ?_⟩
      refine ⟨_, rfl, .inl ⟨n, rfl, _, e1, ?_, same_put s1 hc, ?_⟩⟩
      · rw [List.length_map, List.length_take]
        exact big' (by omega)
      · rw [upd_same, List.take_add_one, hn, List.map_append]
        rfl
  · rintro H1 ⟨s1, e1⟩
    rw [List.length_map, List.take_length] at e1
    -- at least one cell
    refine ⟨fun σ H2 => ∃ cs : List Int, cs ≠ [] ∧ cs.length ≤ 63 ∧ σ = [some (.ref a), some (.int m), some (.ref c), none, none, none, none, none, none] ∧ Same H H2 ∧ H2 c = some (.lst (cs.map V.int)), ?_, ?_⟩
    · refine ⟨_, rfl, _, _, rfl, .inl (sqd e1), rfl, _, rfl, ?_⟩
      refine ite2 (fun z => ?_) (fun z => ?_)
      · refine ⟨_, rfl, .inl ⟨rfl, _, sqd e1⟩, c, _, _, rfl, rfl, e1, ?_, ?_⟩
        · rw [List.length_map]
          exact big' (by omega)
        · have hz := int_eq z
          rw [List.length_map] at hz
          have : ns = [] := List.length_eq_zero_iff.mp (by omega)
          subst this
          exact ⟨[0], by simp, by decide, rfl, same_put s1 hc, upd_same⟩
      · have hz := int_ne z
        rw [List.length_map] at hz
        refine ⟨ns, ?_, hl, rfl, s1, e1⟩
        rintro rfl
        exact hz rfl
    · rintro σ H2 ⟨cs, hcs, hcl, rfl, s2, e2⟩
      have hpos : 0 < cs.length := List.length_pos_iff.mpr hcs
      -- rest, draws
      refine ⟨_, rfl, _, _, rfl, .inl (sqd e2), fun r hr2 => ?_⟩
      have ncr : c ≠ r := ne_of_none e2 hr2
      refine ⟨(Nat.le_of_ble_eq_true rfl), fun d hd => ?_⟩
      have ncd : c ≠ d := ne_of_none (by rw [upd_ne ncr]; exact e2) hd
      have nrd : r ≠ d := ne_of_none upd_same hd
      have hHr : H r = none := s2.free hr2
      have hHd : H d = none := (s2.trans (same_new hr2 _)).free hd
      refine ⟨_, rfl, m, rfl, by omega, by omega, for_range (lo := 0) (n := m.toNat) (fun (j : Nat) (σ : L2.St) (H' : Hp) => ∃ (rs ds : List Int) (y1 y2 y3 : Option V), σ = [some (.ref a), some (.int m), some (.ref c), none, some (.ref r), some (.ref d), y1, y2, y3] ∧ Same H H' ∧ H' c = some (.lst (cs.map V.int)) ∧ H' r = some (.lst (rs.map V.int)) ∧ rs.length = cs.length ∧ H' d = some (.lst (ds.map V.int)) ∧ ds.length ≤ j) ?_ ?_ ?_⟩
      · refine ⟨cs, [], none, none, none, rfl, (s2.trans (same_new hr2 _)).trans (same_new hd _), ?_, ?_, rfl, upd_same, Nat.le_refl _⟩
        · rw [upd_ne ncd, upd_ne ncr]; exact e2
        · rw [upd_ne nrd]; exact upd_same
      · rintro j σ H' hj ⟨rs, ds, y1, y2, y3, rfl, s3, ec, er, hrl, ed, hdl⟩
        have b0 := Int.emod_nonneg ((0 : Int) + (j : Int)) (show (((cs.map V.int).length : Nat) : Int) ≠ 0 by rw [List.length_map]; omega)
        have b1 : (((0 : Int) + (j : Int)) % (((cs.map V.int).length : Nat) : Int)) < (cs.length : Int) := by
          have h := Int.emod_lt_of_pos ((0 : Int) + (j : Int)) (show 0 < (((cs.map V.int).length : Nat) : Int) by rw [List.length_map]; omega)
          rw [List.length_map] at h ⊢
          exact h
        refine ⟨_, rfl, _, rfl, _, _, rfl, .inl (sqd ec), _, _, rfl, rfl, (by show 0 < (((cs.map V.int).length : Nat) : Int); rw [List.length_map]; omega), ?_⟩
        obtain ⟨cv, hcv, _⟩ := atI_map (f := V.int) (xs := cs) b0 b1
        obtain ⟨rv, hrv, _⟩ := atI_map (f := V.int) (xs := rs) b0 (by omega)
        refine ⟨_, rfl, _, rfl, _, _, _, _, rfl, rfl, sqd ec, hcv, _, _, rfl, rfl, ⟨by decide, by decide, by decide⟩, _, _, rfl, rfl, _, rfl, ?_⟩
        refine ite2 (fun z => ?_) (fun z => ?_)
        · refine ⟨_, rfl, .inl ⟨rfl, _, sqd ed⟩, _, rfl, _, rfl, _, _, _, _, rfl, rfl, sqd er, hrv, .inl ⟨_, rfl, _, _, rfl, rfl, (by show (0 : Int) < 1000; decide), d, _, _, rfl, rfl, ed, ?_, ?_⟩⟩
          · rw [List.length_map]
            exact big' (by omega)
          · have er2 : ∀ o, (upd H' d o) r = some (.lst (rs.map V.int)) := fun o => by rw [upd_ne nrd]; exact er
            refine ⟨_, rfl, _, rfl, _, _, _, _, rfl, rfl, sqd (er2 _), hrv, _, _, rfl, rfl, ⟨by decide, by decide⟩, _, rfl, _, rfl, r, _, _, _, rfl, rfl, er2 _, ixN_in b0 (by have h : (rs.map V.int).length = rs.length := List.length_map _; omega), ?_⟩
            refine ⟨rs.set (((0 : Int) + (j : Int)) % (((cs.map V.int).length : Nat) : Int)).toNat (rv / 1000), ds ++ [rv % 1000], _, _, _, rfl, same_put (same_put s3 hHd) hHr, ?_, ?_, ?_, ?_, ?_⟩
            · rw [upd_ne ncr, upd_ne ncd]; exact ec
            · rw [upd_same, List.map_set]
            · rw [List.length_set]; exact hrl
            · rw [upd_ne nrd.symm, upd_same, List.map_append]; rfl
            · rw [List.length_append, List.length_singleton]; omega
        · have o0 := fun z : Int => Int.emod_nonneg z (by decide : (2147483647 : Int) ≠ 0)
          have o1 := fun z : Int => Int.emod_lt_of_pos z (by decide : (0 : Int) < 2147483647)
          refine ⟨_, rfl, _, rfl, _, _, _, _, rfl, rfl, sqd ec, hcv, _, _, rfl, rfl, .inr ⟨by decide, by decide⟩, _, rfl, _, _, rfl, rfl, .inr ⟨by decide, by decide⟩, _, _, rfl, rfl, _, _, rfl, rfl, .inl ⟨_, rfl, _, _, rfl, rfl, (by show (0 : Int) < 2147483647; decide), ?_⟩⟩
          refine ⟨_, rfl, .inl ⟨rfl, _, sqd ed⟩, _, rfl, _, rfl, _, _, rfl, rfl, ?_, ?_⟩
          · left
            have h1 := o0 (cv * 48271 + (0 + (j : Int)) * 69621 + 11)
            have h2 := o1 (cv * 48271 + (0 + (j : Int)) * 69621 + 11)
            constructor
            · show -(2 ^ 64) < _
              omega
            · show _ < 2 ^ 64
              omega
          · refine ⟨_, rfl, _, _, rfl, rfl, .inl ⟨by decide, by decide⟩, _, _, rfl, rfl, _, rfl, _, _, rfl, rfl, .inl ⟨_, rfl, _, _, rfl, rfl, (by show (0 : Int) < 1000003; decide), d, _, _, rfl, rfl, ed, ?_, ?_⟩⟩
            · rw [List.length_map]
              exact big' (by omega)
            · refine ⟨rs, ds ++ [(((cv * 48271 + (0 + (j : Int)) * 69621 + 11) % 2147483647) * ((cv * 48271 + (0 + (j : Int)) * 69621 + 11) % 2147483647) + 3 * ((cv * 48271 + (0 + (j : Int)) * 69621 + 11) % 2147483647) + (0 + (j : Int))) % 1000003], _, _, _, rfl, same_put s3 hHd, ?_, ?_, hrl, ?_, ?_⟩
              · rw [upd_ne ncd]; exact ec
              · rw [upd_ne nrd]; exact er
              · rw [upd_same, List.map_append]; rfl
              · rw [List.length_append, List.length_singleton]; omega
      · rintro σ H' ⟨rs, ds, y1, y2, y3, rfl, s3, ec, er, hrl, ed, hdl⟩
        refine ⟨_, rfl, .inl ⟨rfl, _, sqd ed⟩, d, _, rfl, rfl, ed, ?_⟩
        refine ⟨_, rfl, q d _ (same_put s3 hHd) hHd ⟨ds.reverse, ?_⟩⟩
        rw [upd_same, List.map_reverse]
end
end NL

namespace NL
open PySem PySem.Spec PyProof.Rows L2
/-! ### rows and what stands in them -/
def Each {α : Type} (R : α → V → Prop) (l : List α) (xs : List V) : Prop := xs.length = l.length ∧ ∀ (k : Nat) a x, l[k]? = some a → xs[k]? = some x → R a x
theorem Each.nil {α : Type} {R : α → V → Prop} : Each R [] [] := ⟨rfl, fun k a x h => by simp at h⟩
theorem Each.mono {α : Type} {R S : α → V → Prop} {l : List α} {xs : List V} (h : Each R l xs) (f : ∀ a x, R a x → S a x) : Each S l xs := ⟨h.1, fun k a x e g => f a x (h.2 k a x e g)⟩
theorem Each.cons {α : Type} {R : α → V → Prop} {l : List α} {xs : List V} {a : α} {x : V} (r : R a x) (h : Each R l xs) : Each R (a :: l) (x :: xs) := ⟨by rw [List.length_cons, List.length_cons, h.1], fun k b y e g => by
  cases k with
  | zero => cases e; cases g; exact r
  | succ k => exact h.2 k b y e g⟩
theorem Each.app {α : Type} {R : α → V → Prop} {l m : List α} {xs ys : List V} (h : Each R l xs) (g : Each R m ys) : Each R (l ++ m) (xs ++ ys) := by
  refine ⟨by rw [List.length_append, List.length_append, h.1, g.1], fun k r x e f => ?_⟩
  by_cases hk : k < l.length
  · rw [List.getElem?_append_left hk] at e
    rw [List.getElem?_append_left (by rw [h.1]; exact hk)] at f
    exact h.2 k r x e f
  · rw [List.getElem?_append_right (by omega)] at e
    rw [List.getElem?_append_right (by rw [h.1]; omega), h.1] at f
    exact g.2 _ r x e f
theorem Each.snoc {α : Type} {R : α → V → Prop} {l : List α} {xs : List V} {a : α} {x : V} (h : Each R l xs) (r : R a x) : Each R (l ++ [a]) (xs ++ [x]) := h.app (.cons r .nil)
theorem Each.take {α : Type} {R : α → V → Prop} {l : List α} {xs : List V} (h : Each R l xs) (n : Nat) : Each R (l.take n) (xs.take n) := ⟨by rw [List.length_take, List.length_take, h.1], fun k a x e g => by
  rw [List.getElem?_take] at e g
  split at e
  · rename_i hk
    rw [if_pos hk] at g
    exact h.2 k a x e g
  · cases e⟩
theorem Each.drop {α : Type} {R : α → V → Prop} {l : List α} {xs : List V} (h : Each R l xs) (n : Nat) : Each R (l.drop n) (xs.drop n) := ⟨by rw [List.length_drop, List.length_drop, h.1], fun k a x e g => by
  rw [List.getElem?_drop] at e g
  exact h.2 _ a x e g⟩
theorem Each.set {α : Type} {R : α → V → Prop} {l : List α} {xs : List V} {a : α} {x : V} (h : Each R l xs) (n : Nat) (r : R a x) : Each R (l.set n a) (xs.set n x) := ⟨by rw [List.length_set, List.length_set, h.1], fun k b y e g => by
  rw [List.getElem?_set] at e g
  by_cases hk : n = k
  · rw [if_pos hk] at e g
    by_cases hl : n < l.length
    · rw [if_pos hl] at e
      rw [if_pos (by rw [h.1]; exact hl)] at g
      cases e; cases g; exact r
    · rw [if_neg hl] at e
      cases e
  · rw [if_neg hk] at e g
    exact h.2 k b y e g⟩
theorem Each.at {α : Type} {R : α → V → Prop} {l : List α} {xs : List V} {a : α} {k : Nat} (h : Each R l xs) (e : l[k]? = some a) : ∃ x, xs[k]? = some x ∧ R a x := by
  have hk : k < xs.length := by
    rw [h.1]
    exact (List.getElem?_eq_some_iff.mp e).1
  exact ⟨_, List.getElem?_eq_getElem hk, h.2 k a _ e (List.getElem?_eq_getElem hk)⟩
theorem Each.atI {α : Type} {R : α → V → Prop} {l : List α} {xs : List V} {i : Int} (h : Each R l xs) (h0 : 0 ≤ i) (h1 : i < l.length) : ∃ a x, l[i.toNat]? = some a ∧ atI xs i = some x ∧ R a x := by
  have hk : i.toNat < l.length := by omega
  obtain ⟨x, hx, r⟩ := h.at (List.getElem?_eq_getElem hk)
  have q : L2.atI xs ((i.toNat : Nat) : Int) = some x := atI_nat hx
  rw [show ((i.toNat : Nat) : Int) = i by omega] at q
  exact ⟨_, x, List.getElem?_eq_getElem hk, q, r⟩
/-! ### options, positions, arenas -/
abbrev Opt := List Int
abbrev Pos' := List Opt
abbrev Ar := List Pos'
def OptIn (H : Hp) (o : Opt) (v : V) : Prop := ∃ b, v = .ref b ∧ H b = some (.tup (o.map V.int))
def PosIn (H : Hp) (os : Pos') (v : V) : Prop := ∃ b xs, v = .ref b ∧ H b = some (.tup xs) ∧ Each (OptIn H) os xs
def ArIn (H : Hp) (A : Ar) (v : V) : Prop := ∃ b xs, v = .ref b ∧ H b = some (.tup xs) ∧ Each (PosIn H) A xs
theorem OptIn.tp {H H' : Hp} {o : Opt} {v : V} (t : Tp H H') (h : OptIn H o v) : OptIn H' o v := by
  obtain ⟨b, e, q⟩ := h
  exact ⟨b, e, t _ _ q⟩
theorem PosIn.tp {H H' : Hp} {o : Pos'} {v : V} (t : Tp H H') (h : PosIn H o v) : PosIn H' o v := by
  obtain ⟨b, xs, e, q, r⟩ := h
  exact ⟨b, xs, e, t _ _ q, r.mono fun a x => OptIn.tp t⟩
theorem ArIn.tp {H H' : Hp} {o : Ar} {v : V} (t : Tp H H') (h : ArIn H o v) : ArIn H' o v := by
  obtain ⟨b, xs, e, q, r⟩ := h
  exact ⟨b, xs, e, t _ _ q, r.mono fun a x => PosIn.tp t⟩
/-- an option of an arena with n positions -/
structure OptG (n : Int) (o : Opt) : Prop where
  ne : o ≠ []
  len : o.length ≤ 60
  mem : ∀ s ∈ o, -1 ≤ s ∧ s < n
  asc : o.Pairwise (· < ·)
def PosG (n : Int) (os : Pos') : Prop := os.length ≤ 12 ∧ ∀ o ∈ os, OptG n o
def ArG (A : Ar) : Prop := A.length ≤ 46 ∧ ∀ os ∈ A, PosG A.length os
theorem OptG.one {n s : Int} (h0 : -1 ≤ s) (h1 : s < n) : OptG n [s] := ⟨by simp, by simp, fun t ht => by rw [List.mem_singleton.mp ht]; exact ⟨h0, h1⟩, List.pairwise_singleton _ _⟩
theorem asc_of {l m : List Int} (h : l.Perm m) (hm : m.Nodup) (hp : l.Pairwise (· ≤ ·)) : l.Pairwise (· < ·) := by
  have hn : l.Nodup := h.nodup_iff.mpr hm
  refine (hp.and hn).imp fun {a b} h => ?_
  obtain ⟨h1, h2⟩ := h
  omega
theorem tp_put {H H' : Hp} {p : Addr} {o : List V} {o' : HO} (t : Tp H H') (h : H' p = some (.lst o)) : Tp H (upd H' p o') := fun a xs e => by
  have n : a ≠ p := fun q => by
    have := t a xs e
    rw [q, h] at this
    cases this
  rw [upd_ne n]
  exact t a xs e
theorem Go.put2 {d p : Addr} {H H' : Hp} {o : HO} (g : Go d H H') (hp : H p = none) (n : p ≠ d) : Go d H (upd H' p o) := ⟨fun b u hb e => by
  rw [upd_ne (ne_of_none e hp)]
  exact g.fr b u hb e, by
  obtain ⟨ns, e⟩ := g.dr
  exact ⟨ns, by rw [upd_ne n.symm]; exact e⟩⟩
theorem new_ne {d p : Addr} {H : Hp} (h : Dr H d) (hp : H p = none) : p ≠ d := by
  rintro rfl
  obtain ⟨ns, e⟩ := h
  rw [hp] at e
  cases e
theorem Go.free {d p : Addr} {H H' : Hp} (g : Go d H H') (hp : H' p = none) : H p = none := by
  cases e : H p with
  | none => rfl
  | some o =>
    by_cases hd : p = d
    · obtain ⟨ns, q⟩ := g.dr
      rw [hd, q] at hp
      cases hp
    · rw [g.fr p o hd e] at hp
      cases hp
end NL

set_option maxHeartbeats 4000000
namespace NL
open PySem PySem.Spec PyProof.Rows L2
section
variable {P : Program} {w : World} {A : Around} {E : Value → Shared → Prop} {s : Shared}
set_option maxHeartbeats 3200000 in
theorem call_set_ints {l : Addr} {items : Array Value} (ns : List Int) {Q : Value → Shared → Prop} (hh : A.handled = none) (hl : s.heap.IsList l items) (hit : IntsAre items.toList ns) (hb : ns.length + 1 < scanBound)
    (h : ∀ (h' : Heap) (tk c : Nat), SetR w h' s.heap.objs.size (fun j => decide (j ∈ ns)) c → c ≤ ns.length → (∀ b o, s.heap.get? b = some o → h'.get? b = some o) → Q (.ref s.heap.objs.size) { s with heap := h', toks := tk }) :
    wpAny (model P w) A (call (.type "set") [.ref l]) Q E s := by
  have hisz : items.size = ns.length := by
    have q := IntsAre.length hit
    rw [Array.length_toList] at q
    exact q
  obtain ⟨c, tl, hmro⟩ := F.called_set.mro
  have hmade := F.called_set.made
  have hsub := F.called_set.sub
  refine wpAny_call (codeAny_of_tree ?_)
  show wpAny _ _ (callAny (.type "set") _) _ _ _
  refine wpAny_pure ⟨Code.quiet_builtin _ (by decide +kernel), codeAny_builtin F.entry_type_call ?_⟩
  rw [Around.under_plain (weight_type_call_type "set" [.ref l] []) rfl]
  have h1 := F.called_set.notType
  have h2 := F.called_set.canCreate
  have hct := F.typeCall_set_1 (.ref l)
  repeat (any_goals (first | assumption | wp_step))
  refine codeAny_mono (code_set_led1 (.ref l) (E := E) (Q₁ := fun obj s₁ => obj = .ref s.heap.objs.size ∧ s₁ = { s with heap := s.heap.push { cls := .type "set", dict := none, data := .set #[] 0 (.fresh 0 0 (!w.params.followText "set-order")) } }) ⟨rfl, rfl⟩) fun r s₁ hr => ?_
  cases r with
  | error e => exact hr
  | ok fl =>
    cases fl with
    | ret obj =>
      obtain ⟨rfl, rfl⟩ := hr
      have hS : (s.heap.push { cls := .type "set", dict := none, data := .set #[] 0 (.fresh 0 0 (!w.params.followText "set-order")) }).get? s.heap.objs.size = some { cls := .type "set", dict := none, data := .set #[] 0 (.fresh 0 0 (!w.params.followText "set-order")) } := Heap.get?_push_size _ rfl
      have hT : Shared.TypeIs { s with heap := s.heap.push { cls := .type "set", dict := none, data := .set #[] 0 (.fresh 0 0 (!w.params.followText "set-order")) } } (.ref s.heap.objs.size) "set" := ⟨_, hS, rfl⟩
      have hli := F.called_set.init.lookup
      have hbi := F.called_set.init.bind (.ref s.heap.objs.size)
      repeat (any_goals (first | assumption | wp_step))
      refine codeAny_mono (codeAny_call_builtin (R := wants (fun r s₂ => r = .none ∧ ∃ h' tk c, s₂ = { s with heap := h', toks := tk } ∧ SetR w h' s.heap.objs.size (fun j => decide (j ∈ ns)) c ∧ c ≤ ns.length ∧
          (∀ b o, s.heap.get? b = some o → h'.get? b = some o)) E) F.called_set.init.plain F.entry_set_init (check_set_init_1 hT ?_)) fun r₂ s₂ hr₂ => ?_
      · obtain ⟨ol, hol, hcl, nl, hdl⟩ := hl
        obtain ⟨ocls, odict, odata, oslots⟩ := ol
        simp only at hcl hdl
        subst hcl; subst hdl
        have hol' : (s.heap.push { cls := .type "set", dict := none, data := .set #[] 0 (.fresh 0 0 (!w.params.followText "set-order")) }).get? l = some { cls := .type "list", dict := odict, data := .seq items nl, slots := oslots } := Heap.get?_push_of_some _ hol
        have hsls := F.sub_list_set
        have hslf := F.sub_list_frozenset
        have hne : (Value.type "list" == Value.type "dict") = false := by decide
        have hl1 : (s.heap.push { cls := .type "set", dict := none, data := .set #[] 0 (.fresh 0 0 (!w.params.followText "set-order")) }).IsList l items := ⟨_, hol', rfl, nl, rfl⟩
        unfold Builtin.«set.__init__» noKeywords Builtin.Frozenset.updateFrom
        generalize hPI : pyIter = PI
        wp_walk
        subst hPI
        refine wpAny_pyIter_list hl1 ?_
        refine wpAny_bind (wpAny_runValue ?_)
        have hlS : l < s.heap.objs.size := Heap.lt_size hol
        have hh3 : A.in1.in1.in1.handled = none := by simp [hh]
        have hneI : l ≠ (s.heap.push { cls := .type "set", dict := none, data := .set #[] 0 (.fresh 0 0 (!w.params.followText "set-order")) }).objs.size := by
          rw [Heap.size_push]; exact Nat.ne_of_lt (Nat.lt_succ_of_lt hlS)
        have hSf : s.heap.objs.size ∉ [(s.heap.push { cls := .type "set", dict := none, data := .set #[] 0 (.fresh 0 0 (!w.params.followText "set-order")) }).objs.size, l] := by
          rw [Heap.size_push]; simp only [List.mem_cons, List.mem_singleton, List.not_mem_nil, or_false, not_or]
          exact ⟨Nat.ne_of_lt (Nat.lt_succ_self _), Nat.ne_of_gt hlS⟩
        have hval : ∀ (i : Nat) (v : Value), items[i]? = some v → ∃ k t, ns[i]? = some k ∧ v = .int k t := fun i v hv => by
          obtain ⟨n, t, e1, e2⟩ := IntsAre.at hit i v (by rw [Array.getElem?_toList]; exact hv)
          exact ⟨n, t, e2, e1⟩
        refine set_update_ints ((Walks.list hh3 _ l hneI items).toS) s.heap.objs.size
          hSf ns hisz hb hval (items.size - 0) 0 _ (by omega) (Nat.zero_le _)
          ⟨⟨_, Heap.get?_push_size _ rfl, rfl, rfl⟩, (hl1.push _)⟩ ?hS0 ?hR
        case hS0 =>
          have hget : ((s.heap.push { cls := .type "set", dict := none, data := .set #[] 0 (.fresh 0 0 (!w.params.followText "set-order")) }).push { cls := .type "list_iterator", data := .fields #[.ref l, .int 0 0] }).get? s.heap.objs.size
              = some { cls := .type "set", dict := none, data := .set #[] 0 (.fresh 0 0 (!w.params.followText "set-order")) } := Heap.get?_push_of_some _ hS
          exact ⟨0, Nat.le_refl 0, setR_new_at hget⟩
        case hR =>
          intro s' c' hm hc' hS'
          obtain ⟨h', g2, d', tk', os'⟩ := s'
          have eg : g2 = s.gens := hm.gens
          have ed : d' = s.drawn := hm.drawn
          have eo : os' = s.os := hm.os
          subst eg; subst ed; subst eo
          show wpAny _ _ _ _ _ _
          refine wpAny_pure ?_
          show wpAny _ _ (ret Value.none) _ _ _
          rw [hisz] at hc'
          refine wpAny_pure ⟨rfl, h', tk', c', rfl, hS', hc', fun b o e => ?_⟩
          have hb0 : b < s.heap.objs.size := Heap.lt_size e
          have hb1 : b ≠ s.heap.objs.size := Nat.ne_of_lt hb0
          have hb2 : b ≠ (s.heap.push { cls := .type "set", dict := none, data := .set #[] 0 (.fresh 0 0 (!w.params.followText "set-order")) }).objs.size := by
            rw [Heap.size_push]; exact Nat.ne_of_lt (Nat.lt_succ_of_lt hb0)
          exact hm.heap b o (by simp only [List.mem_cons, List.mem_singleton, List.not_mem_nil, or_false, not_or]; exact ⟨hb1, hb2⟩) (Heap.get?_push_of_some _ (Heap.get?_push_of_some _ e))
      · cases r₂ with
        | error e => exact hr₂
        | ok fl₂ =>
          cases fl₂ with
          | ret r =>
            obtain ⟨rfl, h', tk, c', rfl, hS', hc', hk'⟩ := hr₂
            repeat (any_goals (first | assumption | wp_step))
            exact h _ _ _ hS' hc' hk'
          | _ => exact hr₂.elim
    | _ => exact hr.elim
end
variable {X : Cx}
def rSetOfI (K : PySem.W.Frag) (w : World) : List V → Hp → VK → Prop := fun xs H Q => ∃ (l : Addr) (ns : List Int), xs = [.ref l] ∧ SqL K H l (ns.map V.int) ∧ ns.length < 64 ∧ ∀ a c, H a = none → c ≤ ns.length → Q (.ref a) (upd H a (SetO w a (fun j => decide (j ∈ ns)) c))
theorem cr_setOfI (hc : X.calm = true) : CallR X (.type "set") (rSetOfI X.K X.w) := by
  intro pins s σ H xs us Q I r h
  obtain ⟨l, ks, rfl, hl, hf, q⟩ := h
  rw [Vals.ref1 r]
  obtain ⟨its, rv, pl, hz⟩ := I.list hl
  have hn : H s.heap.objs.size = none := I.hok.fresh (Nat.le_refl _)
  refine call_set_ints (P := X.prog) (w := X.w) ks (I.ok.hd hc) pl.isList (by simpa using ints_of_vals rv) (by unfold scanBound; omega) fun h' tk c R hc' k => ?_
  exact ⟨.ref s.heap.objs.size, upd H s.heap.objs.size (SetO X.w s.heap.objs.size _ c), I.laid (t' := tk) k (Nat.le_refl _) (setO_new R), rfl, q _ c hn hc'⟩
end NL

namespace NL
open PySem PySem.Spec PyProof.Rows L2
theorem cut_tl {x : V} {r : List V} : cutV (x :: r) (some 1) none = r := by
  unfold cutV
  rw [show HT.sIx (x :: r).length 0 (some 1) = min 1 (x :: r).length from HT.sIx_nat _ _ 1, HT.sIx_none, List.length_cons, show min 1 (r.length + 1) = 1 by omega]
  simp
theorem asc_lt {l : List Int} (h : l.Pairwise (· < ·)) : l.Nodup := h.imp fun {a b} h e => by omega
theorem newH {H : Hp} {p : Addr} (hp : H p = none) (o : HO) : ∃ H', upd H p o = H' ∧ Same H H' ∧ H' p = some o := ⟨_, rfl, same_new hp _, upd_same⟩
section
variable {P : Program} {w : World} {K : PySem.W.Frag} {mg : Str → Option Value} {base : Heap}
/-! ### _law_great -/
def spGreat : Sp := fun vs H Q _ => ∃ d : Addr, vs = [.ref d] ∧ Dr H d ∧ ∀ v A H', Go d H H' → ArIn H' A v → ArG A → Q v H'
theorem ok_law_great (T : Txt K mg) : FnOk P w K mg base CX0 2 T.a_law_great T.d_law_great P_law_great spGreat := by
  have G_law_take := ok_law_take (P := P) (w := w) (base := base) T
  refine T.F_law_great.ok sc_law_great (fun vs H Q E h => ?_) (fun cdv A outer s H vs Q E hr h => ?_)
  · obtain ⟨d, rfl, _⟩ := h
    rfl
  obtain ⟨d, rfl, hD, q⟩ := h
  refine ⟨_, (pss_cons (ps_set (i := 1) sc_law_great.nd rfl (Or.inl rfl) (pe_op op_add pe_int (pe_call G_law_take (hr.mono (by omega)) (by rfl) T.m_law_take T.F_law_take.kp T.b_law_take .nil pass0 (pa_cons (pv 0) (pa_cons pe_int pa_nil)))))
    (pss_cons (ps_set (i := 2) sc_law_great.nd rfl (Or.inl rfl) (pe_call G_law_take (hr.mono (by omega)) (by rfl) T.m_law_take T.F_law_take.kp T.b_law_take .nil pass0 (pa_cons (pv 0) (pa_cons (pv 1) pa_nil))))
    (pss_cons (ps_set (i := 3) sc_law_great.nd rfl (Or.inl rfl) (pe_call G_law_take (hr.mono (by omega)) (by rfl) T.m_law_take T.F_law_take.kp T.b_law_take .nil pass0 (pa_cons (pv 0) (pa_cons (pv 1) pa_nil))))
    (pss_cons (ps_set (i := 4) sc_law_great.nd rfl (Or.inl rfl) (pe_op op_add pe_int (pe_call G_law_take (hr.mono (by omega)) (by rfl) T.m_law_take T.F_law_take.kp T.b_law_take .nil pass0 (pa_cons (pv 0) (pa_cons (pe_ix ix_list (pe_lst (pa_cons pe_int (pa_cons pe_int pa_nil))) (pe_call G_law_take (hr.mono (by omega)) (by rfl) T.m_law_take T.F_law_take.kp T.b_law_take .nil pass0 (pa_cons (pv 0) (pa_cons pe_int pa_nil))) (fun _ _ => rfl)) pa_nil)))))
    (pss_cons (ps_set (i := 5) sc_law_great.nd rfl (Or.inl rfl) (pe_call G_law_take (hr.mono (by omega)) (by rfl) T.m_law_take T.F_law_take.kp T.b_law_take .nil pass0 (pa_cons (pv 0) (pa_cons pe_int pa_nil))))
    (pss_cons (ps_set (i := 6) sc_law_great.nd rfl (Or.inl rfl) (pe_lst pa_nil))
    (pss_cons (ps_for  PassesOwn.never rfl (pi_range1 (by rfl) T.z_range (pa_cons (pv 1) pa_nil)) (pg_name (i := 7) sc_law_great.nd rfl (Or.inl rfl))
    (pss_cons (ps_set (i := 8) sc_law_great.nd rfl (Or.inl rfl) (pe_lst (pa_cons (pe_tup (pa_cons (pe_op op_mod (pe_callTy call_int1 (by rfl) T.z_int (by decide +kernel) (pa_cons (pe_op op_add (pv 7) pe_int) pa_nil)) (pv 1)) pa_nil)) (pa_cons (pe_callTy call_tuple_of (by rfl) T.z_tuple (by decide +kernel) (pa_cons (pe_callB (cr_sortedSet rfl) (by rfl) T.z_sorted (by decide +kernel) (pa_cons (pe_callTy (cr_setOfI rfl) (by rfl) T.z_set (by decide +kernel) (pa_cons (pe_lst (pa_cons (pe_op op_mod (pe_callTy call_int1 (by rfl) T.z_int (by decide +kernel) (pa_cons (pe_op op_add (pe_op op_mul (pv 2) (pv 7)) (pv 3)) pa_nil)) (pv 1)) (pa_cons (pe_op op_mod (pe_callTy call_int1 (by rfl) T.z_int (by decide +kernel) (pa_cons (pe_op op_add (pe_op op_mul (pv 7) (pv 7)) (pv 2)) pa_nil)) (pv 1)) pa_nil))) pa_nil)) pa_nil)) pa_nil)) pa_nil))))
    (C8.pss_cut (ps_if (pt_cmpR op_eq (pe_op op_mod (pe_callTy call_int1 (by rfl) T.z_int (by decide +kernel) (pa_cons (pe_op op_add (pv 7) (pv 3)) pa_nil)) (pv 4)) pe_int (nomark _))
    (pss_one (ps_set (i := 8) sc_law_great.nd rfl (Or.inl rfl) (pe_slice sl_list (pv 8) (po_some pe_int) po_none)))
    pss_nil)
    (C8.pss_cut (ps_if (PW.pt (pw_and (pt_cmpR op_eq (pe_op op_mod (pe_callTy call_int1 (by rfl) T.z_int (by decide +kernel) (pa_cons (pe_op op_add (pv 7) (pv 2)) pa_nil)) (pe_op op_add (pv 4) pe_int)) pe_int (nomark _)) (pw_and1 (pt_cmpR op_gt (pv 5) pe_int (nomark _)))))
    (pss_one (ps_set (i := 8) sc_law_great.nd rfl (Or.inl rfl) (pe_ix ix_list (pe_lst (pa_cons (pe_lst (pa_cons (pe_tup (pa_cons (pe_un un_neg pe_int) (pa_cons (pv 7) pa_nil))) pa_nil)) (pa_cons (pe_lst pa_nil) (pa_cons (pe_lst (pa_cons (pe_tup (pa_cons (pe_un un_neg pe_int) pa_nil)) (pa_cons (pe_tup (pa_cons (pe_op op_mod (pe_callTy call_int1 (by rfl) T.z_int (by decide +kernel) (pa_cons (pe_op op_add (pv 7) pe_int) pa_nil)) (pv 1)) pa_nil)) pa_nil))) pa_nil)))) (pe_op op_sub (pv 5) pe_int) (fun _ _ => rfl))))
    pss_nil)
    (pss_one (ps_expr (pe_bm PySem.F.plainAttrs_list PySem.F.slot_list_append PySem.F.type_list_append mt_append (pv 6) (pa_cons (pe_callTy call_tuple_of (by rfl) T.z_tuple (by decide +kernel) (pa_cons (pv 8) pa_nil)) pa_nil))))))))
    (pss_one (ps_ret (pe_callTy call_tuple_of (by rfl) T.z_tuple (by decide +kernel) (pa_cons (pv 6) pa_nil))))))))))), ?_⟩
  refine ⟨_, rfl, d, 37, rfl, hD, by decide, fun u1 H1 g1 a1 b1 => ⟨_, _, rfl, rfl, ?_⟩⟩
  dsimp only
  generalize hN : (9 : Int) + u1 = N
  refine ⟨_, rfl, _, rfl, d, N, rfl, g1.dr, by omega, fun a H2 g2 a2 b2 => ?_⟩
  refine ⟨_, rfl, _, rfl, d, N, rfl, g2.dr, by omega, fun b H3 g3 a3 b3 => ?_⟩
  refine ⟨_, rfl, Nat.le_of_ble_eq_true rfl, fun l hl => ?_⟩
  have g3l := g3.trans (Go.new (o := .lst [.int 9, .int 60]) g3.dr hl)
  refine ⟨_, rfl, d, 2, rfl, g3l.dr, by decide, fun u2 H4 g4 a4 b4 => ?_⟩
  have el : H4 l = some (.lst ([9, 60].map V.int)) := g4.fr l _ (new_ne g3.dr hl) upd_same
  obtain ⟨m, hm, hmm⟩ := atI_map (f := V.int) (xs := ([9, 60] : List Int)) a4 b4
  have hm9 : m = 9 ∨ m = 60 := by simpa using hmm
  refine ⟨l, _, _, _, rfl, rfl, sqd el, hm, ?_⟩
  refine ⟨d, m, rfl, g4.dr, by omega, fun u3 H5 g5 a5 b5 => ⟨_, _, rfl, rfl, ?_⟩⟩
  dsimp only
  generalize hc : (3 : Int) + u3 = c
  refine ⟨_, rfl, d, 4, rfl, g5.dr, by decide, fun bad H6 g6 a6 b6 => ?_⟩
  have g16 := ((((g1.trans g2).trans g3l).trans g4).trans g5).trans g6
  refine ⟨Nat.zero_le _, fun p hp => ?_⟩
  have hpd := new_ne g6.dr hp
  have hp0 := g16.free hp
  refine ⟨_, rfl, N, rfl, by omega, by omega, for_range (lo := 0) (n := N.toNat) (fun (j : Nat) (σ : L2.St) (H' : Hp) => ∃ (xs : List V) (A' : Ar) (y7 y8 : Option V), σ = [some (.ref d), some (.int N), some (.int a), some (.int b), some (.int c), some (.int bad), some (.ref p), y7, y8] ∧ Go d H H' ∧ H' p = some (.lst xs) ∧ Each (PosIn H') A' xs ∧ A'.length = j ∧ ∀ os ∈ A', PosG N os) ?_ ?_ ?_⟩
  · exact ⟨[], [], none, none, rfl, g16.trans (Go.new g6.dr hp), upd_same, .nil, rfl, fun os h => nomatch h⟩
  · rintro j σ H7 hj ⟨xs, A', y7, y8, rfl, g7, e7, hxs, hA, hG⟩
    have hkN : (0 : Int) + (j : Int) < N := by omega
    have hN0 : 0 < N := by omega
    have md : ∀ z : Int, 0 ≤ z % N ∧ z % N < N := fun z => ⟨Int.emod_nonneg z (by omega), Int.emod_lt_of_pos z hN0⟩
    generalize hk : (0 : Int) + (j : Int) = k at hkN ⊢
    have hk0 : 0 ≤ k := by omega
    -- the two options
    refine ⟨_, rfl, _, _, rfl, rfl, .inl ⟨_, rfl, _, rfl, _, _, rfl, rfl, hN0, Nat.le_of_ble_eq_true rfl, fun t1 ht1 => ?_⟩⟩
    have s1 := same_new ht1 (.tup [V.int ((k + 1) % N)])
    have e1 : upd H7 t1 (.tup [V.int ((k + 1) % N)]) t1 = some (.tup [V.int ((k + 1) % N)]) := upd_same
    generalize upd H7 t1 (.tup [V.int ((k + 1) % N)]) = H8 at s1 e1 ⊢
    refine ⟨_, rfl, _, rfl, _, _, rfl, rfl, .inl ⟨by omega, by omega⟩, _, rfl, _, _, rfl, rfl, .inl ⟨_, rfl, _, rfl, _, _, rfl, rfl, hN0, ?_⟩⟩
    refine ⟨_, rfl, _, rfl, _, _, rfl, rfl, .inl ⟨by omega, by omega⟩, _, rfl, _, _, rfl, rfl, .inl ⟨_, rfl, _, rfl, _, _, rfl, rfl, hN0, ?_⟩⟩
    dsimp only
    generalize hx1 : (a * k + b) % N = x1
    generalize hx2 : (k * k + a) % N = x2
    have hb1 := md (a * k + b)
    have hb2 := md (k * k + a)
    rw [hx1] at hb1
    rw [hx2] at hb2
    refine ⟨Nat.le_of_ble_eq_true rfl, fun l1 hl1 => ⟨l1, [x1, x2], rfl, sqd upd_same, (by show 2 < 64; decide), fun s0 c1 hs0 hc1 => ?_⟩⟩
    have s2 := (same_new hl1 (.lst [V.int x1, V.int x2])).trans (same_new hs0 (SetO w s0 (fun j => decide (j ∈ [x1, x2])) c1))
    refine ⟨s0, _, c1, rfl, upd_same, Nat.lt_of_le_of_lt hc1 (by show 2 < 64; decide), fun ns q1 hasc hmem hlen hq1 => ?_⟩
    refine ⟨q1, _, rfl, .inl ⟨sqd upd_same, fun t2 ht2 => ?_⟩⟩
    obtain ⟨Ha, ea, sa, _⟩ := newH hq1 (.lst (ns.map V.int))
    rw [ea] at ht2 ⊢
    obtain ⟨Hb, eb, sb, et2⟩ := newH ht2 (.tup (ns.map V.int))
    rw [eb]
    refine ⟨Nat.le_of_ble_eq_true rfl, fun ol hol => ?_⟩
    obtain ⟨H9, e9, s9, e3⟩ := newH hol (.lst [V.ref t1, V.ref t2])
    rw [e9]
    have s4 := ((s2.trans sa).trans sb).trans s9
    have e2 := s9 _ _ et2
    have s79 := s1.trans s4
    have o1 : OptG N [(k + 1) % N] := .one (by have := md (k + 1); omega) (md (k + 1)).2
    have o2 : OptG N ns := by
      have hmm : ∀ s ∈ ns, s = x1 ∨ s = x2 := fun s hs => by
        have := (hmem s).mp hs
        simpa using this
      refine ⟨fun e => ?_, by rw [hlen]; exact Nat.le_trans hc1 (by show 2 ≤ 60; decide), fun s hs => ?_, hasc⟩
      · have := (hmem x1).mpr (by simp)
        rw [e] at this
        cases this
      · rcases hmm s hs with rfl | rfl <;> omega
    have r1 : OptIn H9 [(k + 1) % N] (.ref t1) := ⟨t1, rfl, s4 _ _ e1⟩
    have r2 : OptIn H9 ns (.ref t2) := ⟨t2, rfl, e2⟩
    let I : L2.St → Hp → Prop := fun σ H' => ∃ (os : Pos') (ol : Addr) (zs : List V), σ = [some (.ref d), some (.int N), some (.int a), some (.int b), some (.int c), some (.int bad), some (.ref p), some (.int k), some (.ref ol)] ∧ Same H7 H' ∧ H' ol = some (.lst zs) ∧ Each (OptIn H') os zs ∧ PosG N os
    -- the first one left out
    refine ⟨I, ?_, ?_⟩
    · refine ⟨_, rfl, _, rfl, _, _, rfl, rfl, .inl ⟨_, rfl, _, rfl, _, _, rfl, rfl, by omega, rfl, _, rfl, ?_⟩⟩
      refine ite2 (fun z => ?_) (fun z => ?_)
      · refine ⟨_, rfl, 1, rfl, ol, _, rfl, sqd e3, fun om hom => ?_⟩
        rw [cut_tl]
        have s5 := same_new hom (.lst [V.ref t2])
        exact ⟨[ns], om, _, rfl, s79.trans s5, upd_same, .cons (r2.tp (.same s5)) .nil, Nat.le_of_ble_eq_true rfl, fun o ho => by rw [List.mem_singleton.mp ho]; exact o2⟩
      · exact ⟨[_, ns], ol, _, rfl, s79, e3, .cons r1 (.cons r2 .nil), Nat.le_of_ble_eq_true rfl, fun o ho => by
          rcases List.mem_cons.mp ho with rfl | ho
          · exact o1
          · rw [List.mem_singleton.mp ho]; exact o2⟩
    rintro σ H10 ⟨os, ol2, zs, rfl, s10, e10, hzs, hos⟩
    -- bad ones
    refine ⟨I, ?_, ?_⟩
    · refine ⟨_, rfl, _, rfl, _, _, rfl, rfl, .inl ⟨_, rfl, _, rfl, _, _, rfl, rfl, _, _, rfl, rfl, by omega, rfl, _, rfl, ?_⟩⟩
      have keep : I [some (.ref d), some (.int N), some (.int a), some (.int b), some (.int c), some (.int bad), some (.ref p), some (.int k), some (.ref ol2)] H10 := ⟨os, ol2, zs, rfl, s10, e10, hzs, hos⟩
      refine ite2 (fun z => ?_) (fun z => ?_)
      · refine ⟨_, rfl, _, _, rfl, rfl, _, rfl, ?_⟩
        refine ite2 (fun z => ?_) (fun z => keep)
        have hbad : 0 < bad := of_decide_eq_true z
        refine ⟨_, rfl, _, rfl, Nat.le_of_ble_eq_true rfl, fun ta hta => ?_⟩
        obtain ⟨Ha, ea, sa, ka⟩ := newH hta (.tup [V.int (-1), V.int k])
        rw [show upd H10 ta (.tup [V.int (-1), V.int k]) = Ha from ea]
        refine ⟨Nat.le_of_ble_eq_true rfl, fun la hla => ?_⟩
        obtain ⟨Hb, eb, sb, kb⟩ := newH hla (.lst [V.ref ta])
        rw [eb]
        refine ⟨Nat.zero_le _, fun lb hlb => ?_⟩
        obtain ⟨Hc, ec, sc, kc⟩ := newH hlb (.lst [])
        rw [ec]
        refine ⟨_, rfl, Nat.le_of_ble_eq_true rfl, fun tb htb => ?_⟩
        obtain ⟨Hd, ed, sd, kd⟩ := newH htb (.tup [V.int (-1)])
        rw [show upd Hc tb (.tup [V.int (-1)]) = Hd from ed]
        refine ⟨_, rfl, _, _, rfl, rfl, .inl ⟨_, rfl, _, rfl, _, _, rfl, rfl, hN0, Nat.le_of_ble_eq_true rfl, fun tc htc => ?_⟩⟩
        obtain ⟨He, ee, se, ke⟩ := newH htc (.tup [V.int ((k + 2) % N)])
        rw [show upd Hd tc (.tup [V.int ((k + 2) % N)]) = He from ee]
        refine ⟨Nat.le_of_ble_eq_true rfl, fun lc hlc => ?_⟩
        obtain ⟨Hf, ef, sf, kf⟩ := newH hlc (.lst [V.ref tb, V.ref tc])
        rw [ef]
        refine ⟨Nat.le_of_ble_eq_true rfl, fun lo hlo => ?_⟩
        obtain ⟨Hg, eg, sg, kg⟩ := newH hlo (.lst [V.ref la, V.ref lb, V.ref lc])
        rw [eg]
        have sag := ((((((sa.trans sb).trans sc).trans sd).trans se).trans sf).trans sg)
        have m2 := md (k + 2)
        refine ⟨_, rfl, _, _, rfl, rfl, ?_⟩
        have hcase : bad = 1 ∨ bad = 2 ∨ bad = 3 := by omega
        rcases hcase with rfl | rfl | rfl
        · refine ⟨lo, _, _, _, rfl, rfl, sqd kg, atI0, ?_⟩
          refine ⟨[[-1, k]], la, _, rfl, s10.trans sag, (((((sc.trans sd).trans se).trans sf).trans sg)) _ _ kb, .cons ⟨ta, rfl, ((((((sb.trans sc).trans sd).trans se).trans sf).trans sg)) _ _ ka⟩ .nil, Nat.le_of_ble_eq_true rfl, fun o ho => ?_⟩
          rw [List.mem_singleton.mp ho]
          refine ⟨by simp, by simp, fun s hs => ?_, ?_⟩
          · simp only [List.mem_cons, List.not_mem_nil, or_false] at hs
            rcases hs with rfl | rfl <;> omega
          · refine List.pairwise_cons.mpr ⟨fun x hx => ?_, List.pairwise_singleton _ _⟩
            rw [List.mem_singleton.mp hx]
            omega
        · refine ⟨lo, _, _, _, rfl, rfl, sqd kg, atI1, ?_⟩
          exact ⟨[], lb, _, rfl, s10.trans sag, ((((sd.trans se).trans sf).trans sg)) _ _ kc, .nil, Nat.zero_le _, fun o ho => nomatch ho⟩
        · refine ⟨lo, _, _, _, rfl, rfl, sqd kg, (atI_nat (j := 2) rfl), ?_⟩
          refine ⟨[[-1], [(k + 2) % N]], lc, _, rfl, s10.trans sag, sg _ _ kf, .cons ⟨tb, rfl, ((se.trans sf).trans sg) _ _ kd⟩ (.cons ⟨tc, rfl, (sf.trans sg) _ _ ke⟩ .nil), Nat.le_of_ble_eq_true rfl, fun o ho => ?_⟩
          rcases List.mem_cons.mp ho with rfl | ho
          · exact .one (by omega) (by omega)
          · rw [List.mem_singleton.mp ho]
            exact .one (by omega) (by omega)
      · exact iteF keep
    rintro σ H11 ⟨os, ol3, zs, rfl, s11, e11, hzs, hos⟩
    have e11p := s11 _ _ e7
    have hxl := hxs.1
    refine ⟨_, rfl, .inl ⟨rfl, _, sqd e11p⟩, _, rfl, ol3, zs, rfl, .inl ⟨sqd e11, fun t ht => ?_⟩⟩
    have st := same_new ht (.tup zs)
    have ept := st _ _ e11p
    refine ⟨p, xs, _, rfl, rfl, ept, big' (by omega), ?_⟩
    refine ⟨xs ++ [.ref t], A' ++ [os], some (.int k), some (.ref ol3), rfl, ((g7.trans (.same g7.dr s11)).trans (.same (g7.trans (.same g7.dr s11)).dr st)).put2 hp0 hpd, upd_same, ?_, ?_, ?_⟩
    · have tp : Tp H7 (upd (upd H11 t (.tup zs)) p (.lst (xs ++ [.ref t]))) := tp_put ((Tp.same s11).trans (Tp.same st)) ept
      refine (hxs.mono fun o x => PosIn.tp tp).snoc ⟨t, zs, rfl, ?_, ?_⟩
      · rw [upd_ne (fun e => by rw [e, e11p] at ht; cases ht)]
        exact upd_same
      · exact hzs.mono fun o x => OptIn.tp (tp_put (Tp.same st) ept)
    · rw [List.length_append, hA]
      rfl
    · intro o ho
      rcases List.mem_append.mp ho with ho | ho
      · exact hG o ho
      · rw [List.mem_singleton.mp ho]
        exact hos
  · rintro σ H7 ⟨xs, A', y7, y8, rfl, g7, e7, hxs, hA, hG⟩
    refine ⟨_, rfl, p, xs, rfl, .inl ⟨sqd e7, fun t ht => ?_⟩⟩
    have st := same_new ht (.tup xs)
    refine q _ A' _ (g7.trans (.same g7.dr st)) ⟨t, xs, rfl, upd_same, hxs.mono fun os x => PosIn.tp (.same st)⟩ ⟨by omega, fun os h => ?_⟩
    rw [show (A'.length : Int) = N by omega]
    exact hG os h
end
end NL

namespace NL
open PySem PySem.Spec PyProof.Rows L2
theorem cut_pre {xs : List V} {k : Nat} : cutV xs none (some (k : Int)) = xs.take k := by
  unfold cutV
  rw [HT.sIx_none, show HT.sIx xs.length xs.length (some (k : Int)) = min k xs.length from HT.sIx_nat _ _ _, List.drop_zero, Nat.sub_zero]
  by_cases h : k ≤ xs.length
  · rw [Nat.min_eq_left h]
  · rw [Nat.min_eq_right (by omega), List.take_length, List.take_of_length_le (by omega)]
theorem slA_of {K : PySem.W.Frag} {a : Addr} {xs : List V} {lo hi : Option Int} {H : Hp} {Q : VK} (ha : H a = some (.tup xs)) (q : ∀ p H', Same H H' → H' p = some (.tup (cutV xs lo hi)) → Q (.ref p) H') : rSlA K (.ref a) lo hi H Q := by
  refine ⟨a, xs, rfl, sqt ha, fun h => ?_, fun _ p hp => q p _ (same_new hp _) upd_same⟩
  refine q a H (Same.refl H) ?_
  have : cutV xs lo hi = xs := by
    unfold cutV
    rw [h.1, h.2, List.drop_zero, Nat.sub_zero]
    exact List.take_length
  rw [this]
  exact ha
theorem catA_of {K : PySem.W.Frag} {a b : Addr} {xs ys : List V} {H : Hp} {Q : VK} (ha : H a = some (.tup xs)) (hb : H b = some (.tup ys)) (hl : xs.length + ys.length ≤ 1000) (q : ∀ p H', Same H H' → H' p = some (.tup (xs ++ ys)) → Q (.ref p) H') : rCatA K (.ref a) (.ref b) H Q := by
  refine ⟨a, b, xs, ys, rfl, rfl, sqt ha, sqt hb, big (by omega), fun h => ?_, fun _ h => ?_, fun _ _ p hp => ?_⟩
  · exact q b H (Same.refl H) (by rw [h, List.nil_append]; exact hb)
  · exact q a H (Same.refl H) (by rw [h, List.append_nil]; exact ha)
  · exact q p _ (same_new hp _) upd_same
theorem rg_ints (a b : Int) : rgV a b = ((List.range (b - a).toNat).map fun i : Nat => a + (i : Int)).map V.int := by
  unfold rgV
  rw [List.map_map]
  rfl
theorem rg_good {u n : Int} (h0 : 0 ≤ u) (h1 : u < 2) (hn : 0 < n) (hm : n ≤ 46) : OptG n ((List.range (n - (0 - u)).toNat).map fun i : Nat => (0 - u) + (i : Int)) := by
  refine ⟨fun e => ?_, ?_, fun s hs => ?_, ?_⟩
  · have h := congrArg List.length e
    rw [List.length_map, List.length_range, List.length_nil] at h
    omega
  · rw [List.length_map, List.length_range]
    omega
  · obtain ⟨i, hi, rfl⟩ := List.mem_map.mp hs
    have := List.mem_range.mp hi
    omega
  · rw [List.pairwise_map]
    exact List.pairwise_lt_range.imp fun {a b} h => by omega
section
variable {P : Program} {w : World} {K : PySem.W.Frag} {mg : Str → Option Value} {base : Heap}
/-! ### _law_arena -/
def spArena : Sp := fun vs H Q _ => ∃ (d : Addr) (most : Int), vs = [.ref d, .int most] ∧ Dr H d ∧ 0 ≤ most ∧ most ≤ 45 ∧ ∀ v A H', Go d H H' → ArIn H' A v → ArG A → Q v H'
theorem ok_law_arena (T : Txt K mg) : FnOk P w K mg base CX0 3 T.a_law_arena T.d_law_arena P_law_arena spArena := by
  have G_law_take := ok_law_take (P := P) (w := w) (base := base) T
  have G_law_great := ok_law_great (P := P) (w := w) (base := base) T
  refine T.F_law_arena.ok sc_law_arena (fun vs H Q E h => ?_) (fun cdv A outer s H vs Q E hr h => ?_)
  · obtain ⟨d, most, rfl, _⟩ := h
    rfl
  obtain ⟨d, most, rfl, hD, m0, m1, q⟩ := h
  refine ⟨_, (pss_cons (ps_set (i := 2) sc_law_arena.nd rfl (Or.inl rfl) (pe_call G_law_take (hr.mono (by omega)) (by rfl) T.m_law_take T.F_law_take.kp T.b_law_take .nil pass0 (pa_cons (pv 0) (pa_cons pe_int pa_nil))))
    (pss_cons (ps_if (pt_cmpR op_eq (pv 2) pe_int (nomark _))
    (pss_one (ps_ret (pe_call G_law_great (hr.mono (by omega)) (by rfl) T.m_law_great T.F_law_great.kp T.b_law_great .nil pass0 (pa_cons (pv 0) pa_nil))))
    pss_nil)
    (pss_cons (ps_set (i := 3) sc_law_arena.nd rfl (Or.inl rfl) (pe_ix ix_list (pe_lst (pa_cons pe_int (pa_cons pe_int (pa_cons pe_int pa_nil)))) (pe_call G_law_take (hr.mono (by omega)) (by rfl) T.m_law_take T.F_law_take.kp T.b_law_take .nil pass0 (pa_cons (pv 0) (pa_cons pe_int pa_nil))) (fun _ _ => rfl)))
    (pss_cons (ps_set (i := 4) sc_law_arena.nd rfl (Or.inl rfl) (pe_ix ix_list (pe_lst (pa_cons (pe_lst (pa_cons pe_int (pa_cons pe_int (pa_cons pe_int (pa_cons pe_int (pa_cons pe_int (pa_cons pe_int pa_nil))))))) (pa_cons (pe_lst (pa_cons pe_int (pa_cons pe_int (pa_cons pe_int (pa_cons pe_int (pa_cons pe_int (pa_cons pe_int pa_nil))))))) pa_nil))) (pe_call G_law_take (hr.mono (by omega)) (by rfl) T.m_law_take T.F_law_take.kp T.b_law_take .nil pass0 (pa_cons (pv 0) (pa_cons pe_int pa_nil))) (fun _ _ => rfl)))
    (pss_cons (ps_set (i := 5) sc_law_arena.nd rfl (Or.inr rfl) (pe_call G_law_take (hr.mono (by omega)) (by rfl) T.m_law_take T.F_law_take.kp T.b_law_take .nil pass0 (pa_cons (pv 0) (pa_cons (pe_op op_add (pv 1) pe_int) pa_nil))))
    (pss_cons (ps_set (i := 6) sc_law_arena.nd rfl (Or.inl rfl) (pe_lst pa_nil))
    (pss_cons (ps_for  PassesOwn.never rfl (pi_range1 (by rfl) T.z_range (pa_cons (pv 5) pa_nil)) (pg_name (i := 7) sc_law_arena.nd rfl (Or.inl rfl))
    (pss_cons (ps_set (i := 8) sc_law_arena.nd rfl (Or.inl rfl) (pe_lst pa_nil))
    (pss_cons (ps_for  PassesOwn.never rfl (pi_range1 (by rfl) T.z_range (pa_cons (pe_ix ix_list (pv 4) (pe_call G_law_take (hr.mono (by omega)) (by rfl) T.m_law_take T.F_law_take.kp T.b_law_take .nil pass0 (pa_cons (pv 0) (pa_cons pe_int pa_nil))) (fun _ _ => rfl)) pa_nil)) (pg_name (i := 9) sc_law_arena.nd rfl (Or.inl rfl))
    (pss_cons (ps_set (i := 10) sc_law_arena.nd rfl (Or.inl rfl) (pe_lst pa_nil))
    (pss_cons (ps_for  PassesOwn.never rfl (pi_range1 (by rfl) T.z_range (pa_cons (pe_op op_add pe_int (pe_ix ix_list (pe_lst (pa_cons pe_int (pa_cons pe_int (pa_cons pe_int (pa_cons pe_int (pa_cons pe_int (pa_cons pe_int pa_nil))))))) (pe_call G_law_take (hr.mono (by omega)) (by rfl) T.m_law_take T.F_law_take.kp T.b_law_take .nil pass0 (pa_cons (pv 0) (pa_cons pe_int pa_nil))) (fun _ _ => rfl))) pa_nil)) (pg_name (i := 11) sc_law_arena.nd rfl (Or.inl rfl))
    (pss_cons (ps_set (i := 12) sc_law_arena.nd rfl (Or.inl rfl) (pe_call G_law_take (hr.mono (by omega)) (by rfl) T.m_law_take T.F_law_take.kp T.b_law_take .nil pass0 (pa_cons (pv 0) (pa_cons (pe_op op_mul (pv 5) (pv 3)) pa_nil))))
    (pss_cons (ps_set (i := 13) sc_law_arena.nd rfl (Or.inl rfl) (pe_op op_fdiv (pv 12) (pv 3)))
    (C8.pss_cut (ps_if (pt_cmpR op_eq (pe_op op_mod (pe_callTy call_int1 (by rfl) T.z_int (by decide +kernel) (pa_cons (pv 12) pa_nil)) (pv 3)) pe_int (nomark _))
    (pss_one (ps_set (i := 13) sc_law_arena.nd rfl (Or.inl rfl) (pe_un un_neg pe_int)))
    pss_nil)
    (pss_one (ps_if (pt_cmpR op_notIn_seq (pv 13) (pv 10) (by rfl))
    (pss_one (ps_expr (pe_bm PySem.F.plainAttrs_list PySem.F.slot_list_append PySem.F.type_list_append mt_append (pv 10) (pa_cons (pv 13) pa_nil))))
    pss_nil))))))
    (pss_one (ps_expr (pe_bm PySem.F.plainAttrs_list PySem.F.slot_list_append PySem.F.type_list_append mt_append (pv 8) (pa_cons (pe_callTy call_tuple_of (by rfl) T.z_tuple (by decide +kernel) (pa_cons (pe_callB (cr_sorted) (by rfl) T.z_sorted (by decide +kernel) (pa_cons (pv 10) pa_nil)) pa_nil)) pa_nil)))))))
    (pss_one (ps_expr (pe_bm PySem.F.plainAttrs_list PySem.F.slot_list_append PySem.F.type_list_append mt_append (pv 6) (pa_cons (pe_callTy call_tuple_of (by rfl) T.z_tuple (by decide +kernel) (pa_cons (pv 8) pa_nil)) pa_nil)))))))
    (C8.pss_cut (ps_if (PW.pt (pw_and (pt_cmpR op_gt (pv 5) pe_int (nomark _)) (pw_and1 (pt_cmpR op_eq (pe_call G_law_take (hr.mono (by omega)) (by rfl) T.m_law_take T.F_law_take.kp T.b_law_take .nil pass0 (pa_cons (pv 0) (pa_cons pe_int pa_nil))) pe_int (nomark _)))))
    (pss_cons (ps_set (i := 14) sc_law_arena.nd rfl (Or.inr rfl) (pe_call G_law_take (hr.mono (by omega)) (by rfl) T.m_law_take T.F_law_take.kp T.b_law_take .nil pass0 (pa_cons (pv 0) (pa_cons (pv 5) pa_nil))))
    (pss_cons (ps_set (i := 15) sc_law_arena.nd rfl (Or.inl rfl) (pe_op op_cat (pe_lst (pa_cons (pe_tupRg rfl (by rfl) T.z_tuple (prg_2 (by rfl) T.z_range (pe_op op_sub pe_int (pe_call G_law_take (hr.mono (by omega)) (by rfl) T.m_law_take T.F_law_take.kp T.b_law_take .nil pass0 (pa_cons (pv 0) (pa_cons pe_int pa_nil)))) (pv 5))) pa_nil)) (pe_lc (own := [("j", 9)]) (g := (gName 9)) (tt := tYes) rfl sc_law_arena.nd (pi_range1 (by rfl) T.z_range (pa_cons pe_int pa_nil)) (blkOk_by (N := N_law_arena) (sc := defScope s_law_arena) (by decide +kernel)) (fun _ _ _ _ _ => (pg_name (i := 9) sc_law_arena.nd rfl (Or.inl rfl))) (fun _ _ _ _ _ => pts_nil) (fun _ _ _ _ _ => (pe_tup (pa_cons (pe_op op_mod (pe_callTy call_int1 (by rfl) T.z_int (by decide +kernel) (pa_cons (pe_op op_add (pe_op op_mul (pv 9) (pv 14)) (pv 9)) pa_nil)) (pv 5)) pa_nil))))))
    (pss_one (ps_asg (pe_slice sl_tupA (pe_op op_catA (pe_ix ix_list (pv 6) (pv 14) (fun _ _ => rfl)) (pe_callTy call_tuple_of (by rfl) T.z_tuple (by decide +kernel) (pa_cons (pv 15) pa_nil))) po_none (po_some pe_int)) (pg_sub (pv 6) (pv 14) set_list)))))
    pss_nil)
    (pss_one (ps_ret (pe_callTy call_tuple_of (by rfl) T.z_tuple (by decide +kernel) (pa_cons (pv 6) pa_nil)))))))))))), ?_⟩
  refine ⟨_, rfl, d, 12, rfl, hD, by decide, fun sh H1 g1 _ _ => ?_⟩
  refine ⟨_, rfl, rfl, _, rfl, ?_⟩
  refine ite2 (fun z => ?_) (fun z => ?_)
  · exact ⟨_, rfl, d, rfl, g1.dr, fun v A H' g hA hG => q v A H' (g1.trans g) hA hG⟩
  -- how rare it is to be out
  refine ⟨Nat.le_of_ble_eq_true rfl, fun l hl => ?_⟩
  have g1l := g1.trans (Go.new (o := .lst [.int 4, .int 14, .int 60]) g1.dr hl)
  refine ⟨_, rfl, d, 3, rfl, g1l.dr, by decide, fun u2 H2 g2 a2 b2 => ?_⟩
  have el : H2 l = some (.lst ([4, 14, 60].map V.int)) := g2.fr l _ (new_ne g1.dr hl) upd_same
  obtain ⟨rare, hra, hrm⟩ := atI_map (f := V.int) (xs := ([4, 14, 60] : List Int)) a2 b2
  have hr3 : 0 < rare ∧ rare ≤ 60 := by
    simp only [List.mem_cons, List.not_mem_nil, or_false] at hrm
    omega
  refine ⟨l, _, _, _, rfl, rfl, sqd el, hra, ?_⟩
  have g12 := g1l.trans g2
  -- how many options
  refine ⟨Nat.le_of_ble_eq_true rfl, fun l1 hl1 => ?_⟩
  obtain ⟨Ha, ea, sa, ka⟩ := newH hl1 (.lst [.int 0, .int 1, .int 1, .int 2, .int 2, .int 3])
  rw [ea]
  refine ⟨Nat.le_of_ble_eq_true rfl, fun l2 hl2 => ?_⟩
  obtain ⟨Hb, eb, sb, kb⟩ := newH hl2 (.lst [.int 1, .int 1, .int 2, .int 2, .int 3, .int 4])
  rw [eb]
  refine ⟨Nat.le_of_ble_eq_true rfl, fun l3 hl3 => ?_⟩
  obtain ⟨Hc, ec, sc, kc⟩ := newH hl3 (.lst [.ref l1, .ref l2])
  rw [ec]
  have gc := g12.trans (.same g12.dr ((sa.trans sb).trans sc))
  refine ⟨_, rfl, d, 2, rfl, gc.dr, by decide, fun u3 H3 g3 a3 b3 => ?_⟩
  have g13 := gc.trans g3
  have nl1 : l1 ≠ d := new_ne g12.dr hl1
  have nl2 : l2 ≠ d := new_ne (g12.trans (.same g12.dr sa)).dr hl2
  have nl3 : l3 ≠ d := new_ne (g12.trans (.same g12.dr (sa.trans sb))).dr hl3
  obtain ⟨ml, M, nml, hmat, eml, hM6, hMb⟩ : ∃ (ml : Addr) (M : List Int), ml ≠ d ∧ atI [V.ref l1, V.ref l2] u3 = some (.ref ml) ∧ H3 ml = some (.lst (M.map V.int)) ∧ M.length = 6 ∧ ∀ x ∈ M, 0 ≤ x ∧ x ≤ 4 := by
    have hc : u3 = 0 ∨ u3 = 1 := by omega
    rcases hc with rfl | rfl
    · exact ⟨l1, [0, 1, 1, 2, 2, 3], nl1, atI0, g3.fr l1 _ nl1 ((sb.trans sc) _ _ ka), rfl, by decide⟩
    · exact ⟨l2, [1, 1, 2, 2, 3, 4], nl2, atI1, g3.fr l2 _ nl2 (sc _ _ kb), rfl, by decide⟩
  refine ⟨l3, _, _, _, rfl, rfl, sqd (g3.fr l3 _ nl3 kc), hmat, ?_⟩
  refine ⟨_, rfl, _, rfl, _, _, rfl, rfl, d, _, rfl, g3.dr, by omega, fun n H4 g4 n0 n1 => ?_⟩
  have g14 := g13.trans g4
  have eml4 := g4.fr ml _ nml eml
  have n46 : n ≤ 46 := by
    have : n < most + 1 := n1
    omega
  refine ⟨Nat.zero_le _, fun p hp => ?_⟩
  have hpd := new_ne g4.dr hp
  have hp0 := g14.free hp
  obtain ⟨H5, e5, s5, k5⟩ := newH hp (.lst [])
  rw [e5]
  have g15 := g14.trans (.same g4.dr s5)
  have eml5 := s5 _ _ eml4
  have npm : p ≠ ml := fun e => by
    rw [e, eml4] at hp
    cases hp
  refine ⟨_, rfl, n, rfl, by omega, by omega, for_range (lo := 0) (n := n.toNat) (fun (j : Nat) (σ : L2.St) (H' : Hp) => ∃ (xs : List V) (A' : Ar) (y7 y8 y9 y10 y11 y12 y13 : Option V), σ = [some (.ref d), some (.int most), some (.int sh), some (.int rare), some (.ref ml), some (.int n), some (.ref p), y7, y8, y9, y10, y11, y12, y13, none, none] ∧ Go d H H' ∧ H' ml = some (.lst (M.map V.int)) ∧ H' p = some (.lst xs) ∧ Each (PosIn H') A' xs ∧ A'.length = j ∧ ∀ os ∈ A', PosG n os) ?_ ?_ ?_⟩
  · exact ⟨[], [], none, none, none, none, none, none, none, rfl, g15, eml5, k5, .nil, rfl, fun os h => nomatch h⟩
  · rintro j σ H7 hj ⟨xs, A', y7, y8, y9, y10, y11, y12, y13, rfl, g7, em7, e7, hxs, hA, hG⟩
    have hn0 : 0 < n := by omega
    generalize hk : (0 : Int) + (j : Int) = k
    refine ⟨Nat.zero_le _, fun ol hol => ?_⟩
    have nol := new_ne g7.dr hol
    obtain ⟨H8, e8, s8, k8⟩ := newH hol (.lst [])
    rw [e8]
    have g78 := Go.same g7.dr s8
    refine ⟨_, rfl, _, rfl, d, 6, rfl, g78.dr, by decide, fun u4 H9 g9 a4 b4 => ?_⟩
    have em9 := g9.fr ml _ nml (s8 _ _ em7)
    obtain ⟨mm, hmm, hmmem⟩ := atI_map (f := V.int) (xs := M) a4 (by rw [hM6]; exact b4)
    have hmb := hMb mm hmmem
    refine ⟨ml, _, _, _, rfl, rfl, sqd em9, hmm, mm, rfl, by omega, by omega, ?_⟩
    have g79 := g78.trans g9
    have e9p := g9.fr p _ hpd (s8 _ _ e7)
    have e9o := g9.fr ol _ nol k8
    have hol7 : H7 ol = none := hol
    refine for_range (lo := 0) (n := mm.toNat) (fun (i : Nat) (σ : L2.St) (H' : Hp) => ∃ (zs : List V) (os : Pos') (y9 y10 y11 y12 y13 : Option V), σ = [some (.ref d), some (.int most), some (.int sh), some (.int rare), some (.ref ml), some (.int n), some (.ref p), some (.int k), some (.ref ol), y9, y10, y11, y12, y13, none, none] ∧ Go d H7 H' ∧ H' ol = some (.lst zs) ∧ Each (OptIn H') os zs ∧ os.length = i ∧ ∀ o ∈ os, OptG n o) ?_ ?_ ?_
    · exact ⟨[], [], y9, y10, y11, y12, y13, rfl, g79, e9o, .nil, rfl, fun o h => nomatch h⟩
    · rintro i σ H10 hi ⟨zs, os, y9, y10, y11, y12, y13, rfl, g10, e10, hzs, hos, hG2⟩
      generalize hk2 : (0 : Int) + (i : Int) = k2
      refine ⟨Nat.zero_le _, fun fl hfl => ?_⟩
      have nfl := new_ne g10.dr hfl
      obtain ⟨H11, e11, s11, k11⟩ := newH hfl (.lst [])
      rw [e11]
      have ga := Go.same g10.dr s11
      refine ⟨Nat.le_of_ble_eq_true rfl, fun l5 hl5 => ?_⟩
      obtain ⟨H12, e12, s12, k12⟩ := newH hl5 (.lst [.int 0, .int 0, .int 1, .int 1, .int 2, .int 3])
      rw [e12]
      have gb := ga.trans (.same ga.dr s12)
      refine ⟨_, rfl, d, 6, rfl, gb.dr, by decide, fun u5 H13 g13' a5 b5 => ?_⟩
      have n5 := new_ne ga.dr hl5
      obtain ⟨mf, hmf, hmfm⟩ := atI_map (f := V.int) (xs := ([0, 0, 1, 1, 2, 3] : List Int)) a5 b5
      have hmf3 : 0 ≤ mf ∧ mf ≤ 3 := by
        simp only [List.mem_cons, List.not_mem_nil, or_false] at hmfm
        omega
      refine ⟨l5, _, _, _, rfl, rfl, sqd (g13'.fr l5 _ n5 k12), hmf, _, _, rfl, rfl, 1 + mf, rfl, by omega, by omega, ?_⟩
      have gc2 := gb.trans g13'
      have ef13 := g13'.fr fl _ nfl (s12 _ _ k11)
      refine for_range (lo := 0) (n := (1 + mf).toNat) (fun (i : Nat) (σ : L2.St) (H' : Hp) => ∃ (fs : List Int) (y11 y12 y13 : Option V), σ = [some (.ref d), some (.int most), some (.int sh), some (.int rare), some (.ref ml), some (.int n), some (.ref p), some (.int k), some (.ref ol), some (.int k2), some (.ref fl), y11, y12, y13, none, none] ∧ Go d H10 H' ∧ H' fl = some (.lst (fs.map V.int)) ∧ fs.Nodup ∧ fs.length ≤ i ∧ (∀ s ∈ fs, -1 ≤ s ∧ s < n) ∧ (0 < i → fs ≠ [])) ?_ ?_ ?_
      · exact ⟨[], y11, y12, y13, rfl, gc2, ef13, List.nodup_nil, Nat.zero_le _, fun s h => (nomatch h), fun h => absurd h (by omega)⟩
      · rintro t σ H14 ht ⟨fs, y11, y12, y13, rfl, g14', e14, hnd, hlen, hmem, hne⟩
        generalize hk3 : (0 : Int) + (t : Int) = k3
        have hpos : 0 < n * rare := Int.mul_pos hn0 hr3.1
        refine ⟨_, rfl, _, rfl, _, rfl, _, _, rfl, rfl, .inl ⟨by omega, by omega⟩, d, n * rare, rfl, g14'.dr, hpos, fun dr H15 g15' d0 d1 => ?_⟩
        refine ⟨_, rfl, _, rfl, _, _, rfl, rfl, ⟨hr3.1, by omega⟩, ?_⟩
        have hq0 : 0 ≤ dr / rare := Int.ediv_nonneg d0 (by omega)
        have hq1 : dr / rare < n := Int.ediv_lt_of_lt_mul hr3.1 d1
        have e15 := g15'.fr fl _ nfl e14
        have g1015 := g14'.trans g15'
        have fin : ∀ sc : Int, -1 ≤ sc → sc < n → ∀ (b : Bool), b = decide (sc ∈ fs) → True := fun _ _ _ _ _ => trivial
        refine ⟨fun σ H' => ∃ sc : Int, σ = [some (.ref d), some (.int most), some (.int sh), some (.int rare), some (.ref ml), some (.int n), some (.ref p), some (.int k), some (.ref ol), some (.int k2), some (.ref fl), some (.int k3), some (.int dr), some (.int sc), none, none] ∧ H' = H15 ∧ -1 ≤ sc ∧ sc < n, ?_, ?_⟩
        · refine ⟨_, rfl, .inl ⟨_, rfl, _, rfl, _, _, rfl, rfl, hr3.1, rfl, _, rfl, ?_⟩⟩
          refine ite2 (fun z => ?_) (fun z => ?_)
          · exact ⟨_, rfl, -1, rfl, rfl, by omega, by omega⟩
          · exact ⟨_, rfl, rfl, by omega, hq1⟩
        rintro σ H16 ⟨sc, rfl, rfl, c0, c1⟩
        refine ⟨_, rfl, _, rfl, fl, _, rfl, .inl (sqd e15), rfl, flat_ints' fs, _, rfl, ?_⟩
        by_cases hin : sc ∈ fs
        · refine ifF (by rw [notIn_int, decide_eq_true hin] <;> rfl) ?_
          exact ⟨fs, _, _, _, rfl, g1015, e15, hnd, by omega, hmem, fun _ e => by rw [e] at hin; cases hin⟩
        · refine ifT (by rw [notIn_int, decide_eq_false hin] <;> rfl) ?_
          refine ⟨_, rfl, .inl ⟨rfl, _, sqd e15⟩, _, rfl, fl, _, _, rfl, rfl, e15, big' (by rw [List.length_map]; omega), ?_⟩
          refine ⟨fs ++ [sc], _, _, _, rfl, g1015.put2 hfl nfl, by rw [upd_same, List.map_append]; rfl, ?_, ?_, ?_, fun _ => by simp⟩
          · exact List.nodup_append.mpr ⟨hnd, by simp, fun a ha b hb e => hin (by rw [← List.mem_singleton.mp hb, ← e]; exact ha)⟩
          · rw [List.length_append]
            exact Nat.add_le_add_right hlen 1
          · intro s hs
            rcases List.mem_append.mp hs with hs | hs
            · exact hmem s hs
            · rw [List.mem_singleton.mp hs]
              exact ⟨c0, c1⟩
      · rintro σ H14 ⟨fs, y11, y12, y13, rfl, g14', e14, hnd, hlen, hmem, hne⟩
        have hfl64 : fs.length ≤ 4 := by omega
        have e14o := g14'.fr ol _ nol e10
        refine ⟨_, rfl, .inl ⟨rfl, _, sqd e14o⟩, _, rfl, fl, fs, rfl, sqd e14, by omega, fun ns q1 hperm hpw hq1 => ?_⟩
        obtain ⟨Hd, ed, sd, kd⟩ := newH hq1 (.lst (ns.map V.int))
        rw [ed]
        refine ⟨q1, _, rfl, .inl ⟨sqd kd, fun t2 ht2 => ?_⟩⟩
        obtain ⟨He, ee, se, ke⟩ := newH ht2 (.tup (ns.map V.int))
        rw [ee]
        have sde := sd.trans se
        have eoe := sde _ _ e14o
        refine ⟨ol, zs, _, rfl, rfl, eoe, big' (by have := hzs.1; omega), ?_⟩
        have ge := g14'.trans (.same g14'.dr sde)
        have tpx : Tp H10 (upd He ol (.lst (zs ++ [.ref t2]))) := tp_put (ge.tp g10.dr) eoe
        have nt2 : t2 ≠ ol := fun e => by
          rw [e, sd _ _ e14o] at ht2
          cases ht2
        refine ⟨zs ++ [.ref t2], os ++ [ns], _, _, _, _, _, rfl, (g10.trans ge).put2 hol7 nol, upd_same, ?_, by rw [List.length_append, hos]; rfl, ?_⟩
        · refine (hzs.mono fun o x => OptIn.tp tpx).snoc ⟨t2, rfl, ?_⟩
          rw [upd_ne nt2]
          exact ke
        · intro o ho
          rcases List.mem_append.mp ho with ho | ho
          · exact hG2 o ho
          · rw [List.mem_singleton.mp ho]
            refine ⟨fun e => ?_, by have := hperm.length_eq; omega, fun s hs => hmem s (hperm.mem_iff.mp hs), asc_of hperm hnd hpw⟩
            rw [e] at hperm
            exact hne (by omega) hperm.symm.eq_nil
    · rintro σ H10 ⟨zs, os, y9, y10, y11, y12, y13, rfl, g10, e10, hzs, hos, hG2⟩
      have e10p := g10.fr p _ hpd e7
      have hxl := hxs.1
      refine ⟨_, rfl, .inl ⟨rfl, _, sqd e10p⟩, _, rfl, ol, zs, rfl, .inl ⟨sqd e10, fun t ht => ?_⟩⟩
      have st := same_new ht (.tup zs)
      have ept := st _ _ e10p
      have gt := (g7.trans g10).trans (.same (g7.trans g10).dr st)
      have ntp : t ≠ p := fun e => by
        rw [e, e10p] at ht
        cases ht
      refine ⟨p, xs, _, rfl, rfl, ept, big' (by omega), ?_⟩
      refine ⟨xs ++ [.ref t], A' ++ [os], some (.int k), some (.ref ol), _, _, _, _, _, rfl, gt.put2 hp0 hpd, ?_, upd_same, ?_, by rw [List.length_append, hA]; rfl, ?_⟩
      · rw [upd_ne npm.symm]
        exact st _ _ (g10.fr ml _ nml em7)
      · have tp : Tp H7 (upd (upd H10 t (.tup zs)) p (.lst (xs ++ [.ref t]))) := tp_put ((g10.tp g7.dr).trans (Tp.same st)) ept
        refine (hxs.mono fun o x => PosIn.tp tp).snoc ⟨t, zs, rfl, ?_, ?_⟩
        · rw [upd_ne ntp]
          exact upd_same
        · exact hzs.mono fun o x => OptIn.tp (tp_put (Tp.same st) ept)
      · intro o ho
        rcases List.mem_append.mp ho with ho | ho
        · exact hG o ho
        · rw [List.mem_singleton.mp ho]
          exact ⟨by omega, hG2⟩
  · rintro σ H7 ⟨xs, A', y7, y8, y9, y10, y11, y12, y13, rfl, g7, em7, e7, hxs, hA, hG⟩
    refine ⟨fun σ H' => ∃ (xs : List V) (A' : Ar) (y7 y8 y9 y10 y11 y12 y13 y14 y15 : Option V), σ = [some (.ref d), some (.int most), some (.int sh), some (.int rare), some (.ref ml), some (.int n), some (.ref p), y7, y8, y9, y10, y11, y12, y13, y14, y15] ∧ Go d H H' ∧ H' p = some (.lst xs) ∧ Each (PosIn H') A' xs ∧ A'.length = n.toNat ∧ ∀ os ∈ A', PosG n os, ?_, ?_⟩
    · refine ⟨_, rfl, _, _, rfl, rfl, _, rfl, ?_⟩
      refine ite2 (fun z => ?_) (fun z => iteF ⟨xs, A', _, _, _, _, _, _, _, _, _, rfl, g7, e7, hxs, hA, hG⟩)
      have hn0 : 0 < n := of_decide_eq_true z
      refine ⟨_, rfl, d, 8, rfl, g7.dr, by decide, fun u4 H9 g9 _ _ => ⟨rfl, _, rfl, ?_⟩⟩
      have e9 := g9.fr p _ hpd e7
      have hxs9 := hxs.mono fun o x => PosIn.tp (g9.tp g7.dr)
      have gg := g7.trans g9
      refine ite2 (fun z => ?_) (fun z => ⟨xs, A', _, _, _, _, _, _, _, _, _, rfl, gg, e9, hxs9, hA, hG⟩)
      refine ⟨_, rfl, _, rfl, d, n, rfl, g9.dr, hn0, fun at_ H10 g10 t0 t1 => ?_⟩
      refine ⟨_, rfl, d, 2, rfl, g10.dr, by decide, fun u H11 g11 u0 u1 => ⟨_, _, rfl, rfl, _, rfl, _, _, rfl, rfl, ⟨by omega, by omega, by omega, by omega, by omega⟩, fun q1 hq1 => ?_⟩⟩
      rw [rg_ints]
      have og1 := rg_good u0 u1 hn0 n46
      generalize (List.range (n - (0 - u)).toNat).map (fun i : Nat => (0 - u) + (i : Int)) = o1 at og1 ⊢
      obtain ⟨Ha, ea, sa, ka⟩ := newH hq1 (.tup (o1.map V.int))
      rw [ea]
      refine ⟨Nat.le_of_ble_eq_true rfl, fun lm hlm => ?_⟩
      obtain ⟨Hb, eb, sb, kb⟩ := newH hlm (.lst [.ref q1])
      rw [eb]
      refine ⟨5, rfl, by decide, by decide, fun D hD => ?_⟩
      refine lc_range (lo := 0) (n := 5) (fun (j : Nat) (H' : Hp) => ∃ (zs : List V) (os : Pos'), Same Hb H' ∧ H' D = some (.lst zs) ∧ Each (OptIn H') os zs ∧ os.length = j ∧ ∀ o ∈ os, OptG n o) ?_ ?_ ?_
      · exact ⟨[], [], same_new hD _, upd_same, .nil, rfl, fun o h => nomatch h⟩
      · rintro j H' hj ⟨zs, os, sj, ej, hzs, hos, hoG⟩
        refine ⟨rfl, yes_if ?_⟩
        refine ⟨_, rfl, _, rfl, _, _, rfl, rfl, .inl ⟨by omega, by omega⟩, _, rfl, _, _, rfl, rfl, .inl ⟨_, rfl, _, rfl, _, _, rfl, rfl, hn0, Nat.le_of_ble_eq_true rfl, fun t ht => ?_⟩⟩
        dsimp only
        generalize hv : ((0 + (j : Int)) * at_ + (0 + (j : Int))) % n = v
        have hv0 : 0 ≤ v := by rw [← hv]; exact Int.emod_nonneg _ (by omega)
        have hv1 : v < n := by rw [← hv]; exact Int.emod_lt_of_pos _ hn0
        obtain ⟨Hc, ec, sc, kc⟩ := newH ht (.tup [V.int v])
        rw [ec]
        have ntD : t ≠ D := fun e => by
          rw [e, ej] at ht
          cases ht
        have ejc := sc _ _ ej
        refine ⟨zs, ejc, big' (by have := hzs.1; omega), zs ++ [.ref t], os ++ [[v]], same_put (sj.trans sc) hD, upd_same, ?_, by rw [List.length_append, hos]; rfl, ?_⟩
        · refine (hzs.mono fun o x => OptIn.tp (tp_put (Tp.same sc) ejc)).snoc ⟨t, rfl, ?_⟩
          rw [upd_ne ntD]
          exact kc
        · intro o ho
          rcases List.mem_append.mp ho with ho | ho
          · exact hoG o ho
          · rw [List.mem_singleton.mp ho]
            exact .one (by omega) hv1
      · rintro H12 ⟨zs, os, sj, ej, hzs, hos, hoG⟩
        refine ⟨lm, D, _, _, rfl, rfl, sj _ _ kb, ej, big (by have := hzs.1; rw [List.length_singleton]; omega), fun mp hmp => ?_⟩
        obtain ⟨Hd, ed, sd, kd⟩ := newH hmp (.lst ([V.ref q1] ++ zs))
        rw [ed]
        have s1 := (sa.trans sb).trans (sj.trans sd)
        have gd : Go d H9 Hd := (g10.trans g11).trans (.same g11.dr s1)
        have hm1 : Each (OptIn Hd) ([o1] ++ os) ([V.ref q1] ++ zs) := (Each.cons ⟨q1, rfl, ((sb.trans sj).trans sd) _ _ ka⟩ .nil).app (hzs.mono fun o x => OptIn.tp (.same sd))
        have edp := gd.fr p _ hpd e9
        have hxd := hxs9.mono fun o x => PosIn.tp (gd.tp g9.dr)
        obtain ⟨os0, x0, hos0, hat, hin⟩ := hxd.atI t0 (by rw [hA]; omega)
        obtain ⟨b0, zs0, rfl, eb0, hzs0⟩ := hin
        have hG0 := hG os0 (List.mem_of_getElem? hos0)
        refine ⟨_, rfl, _, rfl, p, _, _, _, rfl, rfl, sqd edp, hat, _, rfl, mp, _, rfl, .inl ⟨sqd kd, fun t2 ht2 => ?_⟩⟩
        obtain ⟨He, ee, se, ke⟩ := newH ht2 (.tup ([V.ref q1] ++ zs))
        rw [ee]
        refine catA_of (se _ _ eb0) ke (by have h1 := hzs0.1; have h2 := hm1.1; have h3 := hG0.1; rw [h2, List.length_append, hos, List.length_singleton]; omega) fun pc Hf sf ef => ?_
        refine ⟨9, rfl, ?_⟩
        refine slA_of ef fun ps Hg sg eg => ?_
        rw [show cutV (zs0 ++ ([V.ref q1] ++ zs)) none (some 9) = (zs0 ++ ([V.ref q1] ++ zs)).take 9 from cut_pre (k := 9)] at eg
        have seg := (se.trans sf).trans sg
        have egp := seg _ _ edp
        have hgg := gg.trans (gd.trans (.same gd.dr seg))
        have nps : ps ≠ p := fun e => by
          rw [e, egp] at eg
          cases eg
        refine ⟨_, rfl, _, rfl, p, _, _, _, rfl, rfl, egp, ixN_in t0 (by rw [hxd.1, hA]; omega), ?_⟩
        have tpp : Tp Hd (upd Hg p (.lst (xs.set at_.toNat (.ref ps)))) := tp_put (Tp.same seg) egp
        refine ⟨xs.set at_.toNat (.ref ps), A'.set at_.toNat ((os0 ++ ([o1] ++ os)).take 9), _, _, _, _, _, _, _, _, _, rfl, hgg.put2 hp0 hpd, upd_same, ?_, by rw [List.length_set]; exact hA, ?_⟩
        · refine (hxd.mono fun o x => PosIn.tp tpp).set _ ⟨ps, (zs0 ++ ([V.ref q1] ++ zs)).take 9, rfl, ?_, ?_⟩
          · rw [upd_ne nps]
            exact eg
          · exact ((hzs0.app hm1).take 9).mono fun o x => OptIn.tp tpp
        · intro o ho
          rcases List.mem_or_eq_of_mem_set ho with ho | rfl
          · exact hG o ho
          · refine ⟨by rw [List.length_take]; omega, fun w hw => ?_⟩
            have hw := List.mem_of_mem_take hw
            rcases List.mem_append.mp hw with hw | hw
            · exact hG0.2 w hw
            · rcases List.mem_append.mp hw with hw | hw
              · rw [List.mem_singleton.mp hw]
                exact og1
              · exact hoG w hw
    rintro σ H8 ⟨xs, A', y7, y8, y9, y10, y11, y12, y13, y14, y15, rfl, g8, e8, hxs, hA, hG⟩
    refine ⟨_, rfl, p, xs, rfl, .inl ⟨sqd e8, fun t ht => ?_⟩⟩
    have st := same_new ht (.tup xs)
    refine q _ A' _ (g8.trans (.same g8.dr st)) ⟨t, xs, rfl, upd_same, hxs.mono fun os x => PosIn.tp (.same st)⟩ ⟨by omega, fun os h => ?_⟩
    rw [show (A'.length : Int) = n by omega]
    exact hG os h
end
end NL

namespace NL
open PySem PySem.Spec PyProof.Rows L2
theorem ints_snoc2 (ps : List Int) (l : Int) : (ps ++ [l]).map V.int = ps.map V.int ++ [V.int l] := by
  rw [List.map_append]
  rfl
theorem at_last {α : Type} {x : α} {xs : List α} : atI (xs ++ [x]) (-1) = some x := by
  unfold atI
  rw [show ixN (xs ++ [x]).length (-1) = some xs.length by
    unfold ixN
    rw [if_neg (by decide), if_pos (by rw [List.length_append, List.length_singleton]; omega), List.length_append, List.length_singleton]
    congr 1
    omega]
  simp
theorem lc_pairs {K : PySem.W.Frag} {a b : Addr} {xs ys : List V} {g : TG} {tt : TT} {te : TE} {vs : List Nat} {σ : L2.St} {H1 : Hp} {D : Addr} {Qd : Hp → Prop} (n : Nat) (hn : n = min xs.length ys.length) (Pv : Nat → Hp → Prop) (h0 : Pv 0 (upd H1 D (.lst []))) (hq : ∀ i H, Pv i H → SqT K H a xs ∧ SqT K H b ys)
    (hs : ∀ (i : Nat) (x y : V) (t : Addr) (H : Hp), xs[i]? = some x → ys[i]? = some y → Pv i H → H t = none → g (.ref t) (wipe σ vs) (upd H t (.tup [x, y])) fun σ2 H2 => wipe σ2 vs = wipe σ vs ∧ tt σ2 H2 fun c H3 =>
      if c = true then te σ2 H3 fun z H4 => ∃ acc, H4 D = some (.lst acc) ∧ acc.length < sizeLine ∧ Pv (i + 1) (upd H4 D (.lst (acc ++ [z]))) else Pv (i + 1) H3) (hd : ∀ H, Pv n H → Qd H) :
    ∃ W : Nat → Nat → Hp → Prop, (∃ m, W 0 m (upd H1 D (.lst []))) ∧ ∀ i m H, W i m H →
      ((RZ.ItzT K a b).stop i H ∧ Qd H) ∨ ((RZ.ItzT K a b).go i H ∧ ∃ Nx : Hp → Prop, (∀ H', Nx H' → ∃ m', m' < m ∧ W (i + 1) m' H') ∧ ∀ x H', (RZ.ItzT K a b).yld i H x H' → g x (wipe σ vs) H' fun σ2 H2 => wipe σ2 vs = wipe σ vs ∧ tt σ2 H2 fun c H3 =>
        if c = true then te σ2 H3 fun z H4 => ∃ acc, H4 D = some (.lst acc) ∧ acc.length < sizeLine ∧ Nx (upd H4 D (.lst (acc ++ [z]))) else Nx H3) := by
  refine ⟨fun i m H => m + i = n ∧ Pv i H, ⟨n, rfl, h0⟩, ?_⟩
  rintro i m H ⟨hi, p⟩
  obtain ⟨qx, qy⟩ := hq i H p
  by_cases lt : i < n
  · have ex : xs[i]? = some xs[i] := List.getElem?_eq_getElem (by omega)
    have ey : ys[i]? = some ys[i] := List.getElem?_eq_getElem (by omega)
    refine .inr ⟨⟨xs, ys, _, _, qx, qy, ex, ey⟩, Pv (i + 1), fun H' p' => ⟨m - 1, by omega, by omega, p'⟩, fun v H' y => ?_⟩
    obtain ⟨t, x1, y1, rfl, ht, rfl, f1, f2⟩ := y
    exact hs i x1 y1 t H (f1 xs qx) (f2 ys qy) p ht
  · have e : i = n := by omega
    subst e
    exact .inl ⟨⟨xs, ys, qx, qy, by omega⟩, hd H p⟩
theorem op_catAK {X : Cx} {K : PySem.W.Frag} (h : X.K = K) : OpR X (binaryOp .Add) (rCatA K) := by subst h; exact op_catA
end NL

namespace NL
open PySem PySem.Spec PyProof.Rows L2
/-! ### shortest rows, as functions -/
abbrev Ent := Int × List Int
def keysE (R : List Ent) : List Int := R.map (·.1)
def insE (R : List Ent) (e : Ent) : List Ent := if e.1 ∈ keysE R then R else R ++ [e]
def stepE (f : Int → List Int) (R : List Ent) (e : Ent) : List Ent := (f e.1).foldl (fun R a => insE R (a, e.2 ++ [a])) R
theorem keysE_app (R S : List Ent) : keysE (R ++ S) = keysE R ++ keysE S := List.map_append
theorem ins_ext (R : List Ent) (e : Ent) : ∃ N, insE R e = R ++ N ∧ e.1 ∈ keysE (insE R e) := by
  unfold insE
  split
  · rename_i h
    exact ⟨[], (List.append_nil _).symm, h⟩
  · refine ⟨[e], rfl, ?_⟩
    rw [keysE_app]
    exact List.mem_append_right _ (List.mem_singleton.mpr rfl)
theorem fold_ext {α : Type} (g : List Ent → α → List Ent) (hg : ∀ R a, ∃ N, g R a = R ++ N) : ∀ (l : List α) (R : List Ent), ∃ N, l.foldl g R = R ++ N
  | [], R => ⟨[], (List.append_nil _).symm⟩
  | a :: r, R => by
    obtain ⟨N, h⟩ := hg R a
    obtain ⟨M, h2⟩ := fold_ext g hg r (g R a)
    refine ⟨N ++ M, ?_⟩
    rw [List.foldl_cons, h2, h, List.append_assoc]
theorem step_ext (f : Int → List Int) (R : List Ent) (e : Ent) : ∃ N, stepE f R e = R ++ N := fold_ext _ (fun R a => ⟨_, (ins_ext R _).choose_spec.1⟩) _ _
theorem step_has (f : Int → List Int) (R : List Ent) (e : Ent) : ∀ a ∈ f e.1, a ∈ keysE (stepE f R e) := by
  unfold stepE
  generalize f e.1 = l
  induction l generalizing R with
  | nil => exact fun a h => nomatch h
  | cons b r ih =>
    intro a ha
    rw [List.foldl_cons]
    rcases List.mem_cons.mp ha with rfl | ha
    · obtain ⟨N, h⟩ := fold_ext (fun R a => insE R (a, e.2 ++ [a])) (fun R a => ⟨_, (ins_ext R _).choose_spec.1⟩) r (insE R (a, e.2 ++ [a]))
      rw [h, keysE_app]
      exact List.mem_append_left _ (ins_ext R (a, e.2 ++ [a])).choose_spec.2
    · exact ih _ a ha
theorem step_noop {f : Int → List Int} {R : List Ent} {e : Ent} (h : ∀ a ∈ f e.1, a ∈ keysE R) : stepE f R e = R := by
  unfold stepE
  generalize f e.1 = l at h
  induction l with
  | nil => rfl
  | cons b r ih =>
    rw [List.foldl_cons, show insE R (b, e.2 ++ [b]) = R by unfold insE; rw [if_pos (h b (List.mem_cons_self ..))]]
    exact ih fun a ha => h a (List.mem_cons_of_mem _ ha)
/-- entries that are there already add nothing -/
theorem skip_seen {f : Int → List Int} : ∀ (es : List Ent) (R0 R N : List Ent), (∀ p ∈ keysE R0, ∀ a ∈ f p, a ∈ keysE R) → es.foldl insE R0 = R0 ++ N →
    es.foldl (stepE f) R = N.foldl (stepE f) R ∧ ∀ p ∈ keysE (R0 ++ N), ∀ a ∈ f p, a ∈ keysE (es.foldl (stepE f) R)
  | [], R0, R, N, hc, hN => by
    have : N = [] := by simpa using hN
    subst this
    refine ⟨rfl, fun p hp => ?_⟩
    rw [List.append_nil] at hp
    exact hc p hp
  | e :: r, R0, R, N, hc, hN => by
    rw [List.foldl_cons] at hN ⊢
    by_cases he : e.1 ∈ keysE R0
    · rw [show insE R0 e = R0 by unfold insE; rw [if_pos he]] at hN
      rw [step_noop (hc e.1 he)]
      exact skip_seen r R0 R N hc hN
    · rw [show insE R0 e = R0 ++ [e] by unfold insE; rw [if_neg he]] at hN
      obtain ⟨M, hM⟩ := fold_ext insE (fun R a => ⟨_, (ins_ext R _).choose_spec.1⟩) r (R0 ++ [e])
      have hNM : N = e :: M := by
        rw [hM, List.append_assoc] at hN
        exact (List.append_cancel_left hN).symm
      subst hNM
      obtain ⟨K, hK⟩ := step_ext f R e
      have := skip_seen r (R0 ++ [e]) (stepE f R e) M (fun p hp a ha => by
        rw [keysE_app] at hp
        rcases List.mem_append.mp hp with hp | hp
        · rw [hK, keysE_app]
          exact List.mem_append_left _ (hc p hp a ha)
        · have : p = e.1 := List.mem_singleton.mp hp
          rw [this] at ha
          exact step_has f R e a ha) hM
      refine ⟨by rw [List.foldl_cons]; exact this.1, fun p hp => ?_⟩
      refine this.2 p ?_
      rw [List.append_assoc]
      exact hp
/-- all rows of a length, in order -/
def rowsL (f : Int → List Int) (st : Int) : Nat → List (List Int × Int)
  | 0 => [([], st)]
  | L + 1 => (rowsL f st L).flatMap fun e => (f e.2).map fun a => (e.1 ++ [a], a)
def entOf (st : Int) (e : List Int × Int) : Ent := (e.2, st :: e.1)
def seenE (f : Int → List Int) (st : Int) : Nat → List Ent
  | 0 => []
  | L + 1 => ((rowsL f st L).map (entOf st)).foldl insE (seenE f st L)
theorem seen_ext (f : Int → List Int) (st : Int) (L : Nat) : ∃ N, seenE f st (L + 1) = seenE f st L ++ N := fold_ext insE (fun R a => ⟨_, (ins_ext R _).choose_spec.1⟩) _ _
theorem seen_next (f : Int → List Int) (st : Int) (L : Nat) : seenE f st (L + 2) = ((rowsL f st L).map (entOf st)).foldl (stepE f) (seenE f st (L + 1)) := by
  show ((rowsL f st (L + 1)).map (entOf st)).foldl insE (seenE f st (L + 1)) = _
  generalize seenE f st (L + 1) = R
  show (((rowsL f st L).flatMap fun e => (f e.2).map fun a => (e.1 ++ [a], a)).map (entOf st)).foldl insE R = _
  generalize rowsL f st L = es
  induction es generalizing R with
  | nil => rfl
  | cons e r ih =>
    rw [List.flatMap_cons, List.map_append, List.foldl_append, ih, List.map_cons, List.foldl_cons]
    congr 1
    rw [List.map_map, List.foldl_map]
    rfl
theorem seen_level (f : Int → List Int) (st : Int) : ∀ (L : Nat) (N : List Ent), seenE f st (L + 1) = seenE f st L ++ N → seenE f st (L + 2) = N.foldl (stepE f) (seenE f st (L + 1)) ∧ ∀ p ∈ keysE (seenE f st (L + 1)), ∀ a ∈ f p, a ∈ keysE (seenE f st (L + 2)) := by
  intro L
  have hc : ∀ p ∈ keysE (seenE f st L), ∀ a ∈ f p, a ∈ keysE (seenE f st (L + 1)) := by
    cases L with
    | zero => exact fun p hp => nomatch hp
    | succ L =>
      obtain ⟨N, hN⟩ := seen_ext f st L
      exact (seen_level f st L N hN).2
  intro N hN
  have := skip_seen ((rowsL f st L).map (entOf st)) (seenE f st L) (seenE f st (L + 1)) N hc hN
  rw [← seen_next, ← hN] at this
  exact this
theorem seen_stop {f : Int → List Int} {st : Int} {L : Nat} (h : seenE f st (L + 1) = seenE f st L) : ∀ K, L ≤ K → seenE f st K = seenE f st L := by
  have one : ∀ j, seenE f st (L + j + 1) = seenE f st (L + j) := fun j => by
    induction j with
    | zero => exact h
    | succ j ih =>
      have := (seen_level f st (L + j) [] (by rw [List.append_nil]; exact ih)).1
      exact this
  intro K hK
  obtain ⟨j, rfl⟩ : ∃ j, K = L + j := ⟨K - L, by omega⟩
  clear hK
  induction j with
  | zero => rfl
  | succ j ih => exact (one j).trans ih
theorem seen_pre (f : Int → List Int) (st : Int) (L j : Nat) : ∃ N, seenE f st (L + j) = seenE f st L ++ N := by
  induction j with
  | zero => exact ⟨[], (List.append_nil _).symm⟩
  | succ j ih =>
    obtain ⟨N, h⟩ := ih
    obtain ⟨M, h2⟩ := seen_ext f st (L + j)
    exact ⟨N ++ M, by rw [← Nat.add_assoc, h2, h, List.append_assoc]⟩
/-! ### what is found first -/
def ansE (lost : Int → Bool) (R : List Ent) : Option Ent := R.find? fun e => lost e.1
theorem ins_ans {lost : Int → Bool} : ∀ (es R : List Ent), ansE lost R = none → ansE lost (es.foldl insE R) = ansE lost es
  | [], R, h => h
  | e :: r, R, h => by
    rw [List.foldl_cons]
    have hR : ∀ q ∈ R, lost q.1 = false := fun q hq => by
      have := List.find?_eq_none.mp h q hq
      simpa using this
    by_cases hl : lost e.1 = true
    · have hn : e.1 ∉ keysE R := fun hk => by
        obtain ⟨q, hq, eq⟩ := List.mem_map.mp hk
        have := hR q hq
        rw [eq, hl] at this
        cases this
      rw [show insE R e = R ++ [e] by unfold insE; rw [if_neg hn]]
      obtain ⟨N, hN⟩ := fold_ext insE (fun R a => ⟨_, (ins_ext R _).choose_spec.1⟩) r (R ++ [e])
      rw [hN]
      unfold ansE at h ⊢
      rw [List.find?_append, List.find?_append, h, List.find?_cons, hl]
      simp [hl]
    · have hl' : lost e.1 = false := by simpa using hl
      rw [ins_ans r (insE R e)]
      · unfold ansE
        rw [List.find?_cons, hl']
      · unfold insE
        split
        · exact h
        · unfold ansE at h ⊢
          rw [List.find?_append, h]
          simp [hl']
def unlost (lost : Int → Bool) (f : Int → List Int) (st : Int) (L : Nat) : Prop := ∀ e ∈ rowsL f st L, lost e.2 = false
theorem seen_none {lost : Int → Bool} {f : Int → List Int} {st : Int} : ∀ L, (∀ l, l < L → unlost lost f st l) → ansE lost (seenE f st L) = none
  | 0, _ => rfl
  | L + 1, h => by
    show ansE lost (((rowsL f st L).map (entOf st)).foldl insE (seenE f st L)) = none
    rw [ins_ans _ _ (seen_none L fun l hl => h l (by omega))]
    refine List.find?_eq_none.mpr fun e he => ?_
    obtain ⟨q, hq, rfl⟩ := List.mem_map.mp he
    have := h L (by omega) q hq
    show ¬ lost q.2 = true
    rw [this]
    exact Bool.false_ne_true
theorem seen_found {lost : Int → Bool} {f : Int → List Int} {st : Int} {L : Nat} (h : ∀ l, l < L → unlost lost f st l) : ansE lost (seenE f st (L + 1)) = ((rowsL f st L).find? fun e => lost e.2).map (entOf st) := by
  show ansE lost (((rowsL f st L).map (entOf st)).foldl insE (seenE f st L)) = _
  rw [ins_ans _ _ (seen_none L h)]
  unfold ansE
  rw [List.find?_map]
  rfl
theorem ans_app {lost : Int → Bool} {R N : List Ent} {e : Ent} (h : ansE lost R = some e) : ansE lost (R ++ N) = some e := by
  unfold ansE at h ⊢
  rw [List.find?_append, h]
  rfl
/-- the rows that a search ends with -/
def Ended (f : Int → List Int) (st : Int) (R : List Ent) : Prop := ∃ M, R = seenE f st M ∧ ∀ K, M ≤ K → seenE f st K = seenE f st M
theorem Ended.hit {lost : Int → Bool} {f : Int → List Int} {st : Int} {R : List Ent} (h : Ended f st R) {L : Nat} {e : List Int × Int} (hu : ∀ l, l < L → unlost lost f st l) (hf : ((rowsL f st L).find? fun e => lost e.2) = some e) : ansE lost R = some (entOf st e) := by
  obtain ⟨M, rfl, hM⟩ := h
  have h1 : ansE lost (seenE f st (L + 1)) = some (entOf st e) := by
    rw [seen_found hu, hf]
    rfl
  rcases Nat.le_total M (L + 1) with hl | hl
  · rw [← hM _ hl]
    exact h1
  · obtain ⟨N, hN⟩ := seen_pre f st (L + 1) (M - (L + 1))
    rw [show L + 1 + (M - (L + 1)) = M by omega] at hN
    rw [hN]
    exact ans_app h1
theorem nd_len (lo : Int) : ∀ (n : Nat) (l : List Int), l.Nodup → (∀ x ∈ l, lo ≤ x ∧ x < lo + n) → l.length ≤ n
  | 0, l, _, h => by
    cases l with
    | nil => exact Nat.le_refl 0
    | cons a r =>
      have := h a (List.mem_cons_self ..)
      omega
  | n + 1, l, hd, h => by
    have h2 := nd_len lo n (l.erase (lo + n)) (hd.erase _) fun x hx => by
      have h3 := (List.Nodup.mem_erase_iff hd).mp hx
      have := h x h3.2
      have h4 := h3.1
      omega
    have := List.length_erase (a := lo + (n : Int)) (l := l)
    split at this <;> omega
theorem ins_nd {R : List Ent} (h : (keysE R).Nodup) (e : Ent) : (keysE (insE R e)).Nodup := by
  unfold insE
  split
  · exact h
  · rename_i hn
    rw [keysE_app, List.nodup_append]
    refine ⟨h, List.nodup_cons.mpr ⟨fun h => (nomatch h), List.nodup_nil⟩, fun a ha b hb e => ?_⟩
    have hb' := List.mem_singleton.mp hb
    rw [e, hb'] at ha
    exact hn ha
theorem insF_nd : ∀ (es : List Ent) {R : List Ent}, (keysE R).Nodup → (keysE (es.foldl insE R)).Nodup
  | [], _, h => h
  | e :: r, _, h => insF_nd r (ins_nd h e)
theorem seen_nd (f : Int → List Int) (st : Int) : ∀ L, (keysE (seenE f st L)).Nodup
  | 0 => List.nodup_nil
  | L + 1 => insF_nd _ (seen_nd f st L)
theorem insF_mem {P : Ent → Prop} : ∀ (es : List Ent) {R : List Ent}, (∀ e ∈ R, P e) → (∀ e ∈ es, P e) → ∀ e ∈ es.foldl insE R, P e
  | [], _, h, _ => h
  | e :: r, R, h, g => by
    refine insF_mem r (fun q hq => ?_) fun q hq => g q (List.mem_cons_of_mem _ hq)
    unfold insE at hq
    split at hq
    · exact h q hq
    · rcases List.mem_append.mp hq with hq | hq
      · exact h q hq
      · rw [List.mem_singleton.mp hq]
        exact g e (List.mem_cons_self ..)
/-- each row that was met is one of all rows of its length -/
theorem seen_mem (f : Int → List Int) (st : Int) : ∀ L, ∀ e ∈ seenE f st L, ∃ l, l < L ∧ ∃ q ∈ rowsL f st l, e = entOf st q
  | 0 => fun e h => nomatch h
  | L + 1 => insF_mem _ (fun e he => by
      obtain ⟨l, hl, q⟩ := seen_mem f st L e he
      exact ⟨l, by omega, q⟩) fun e he => by
      obtain ⟨q, hq, rfl⟩ := List.mem_map.mp he
      exact ⟨L, Nat.lt_succ_self L, q, hq, rfl⟩
theorem rows_in {f : Int → List Int} {st n : Int} (h0 : -1 ≤ st ∧ st < n) (hf : ∀ p, ∀ a ∈ f p, -1 ≤ a ∧ a < n) : ∀ L, ∀ e ∈ rowsL f st L, -1 ≤ e.2 ∧ e.2 < n
  | 0 => fun e he => by
    rw [List.mem_singleton.mp he]
    exact h0
  | L + 1 => fun e he => by
    obtain ⟨q, _, hq⟩ := List.mem_flatMap.mp he
    obtain ⟨a, ha, rfl⟩ := List.mem_map.mp hq
    exact hf _ a ha
theorem Ended.miss {lost : Int → Bool} {f : Int → List Int} {st : Int} {R : List Ent} {n : Nat} (h : Ended f st R) (h0 : -1 ≤ st ∧ st < n) (hf : ∀ p, ∀ a ∈ f p, -1 ≤ a ∧ a < (n : Int)) (hl : lost (-1) = true) (hu : ∀ l, l ≤ n → unlost lost f st l) : ansE lost R = none := by
  obtain ⟨M, rfl, hM⟩ := h
  -- where it stops
  have stop : ∃ L, L ≤ n ∧ seenE f st (L + 1) = seenE f st L := by
    refine Classical.byContradiction fun hno => ?_
    have grow : ∀ L, L ≤ n + 1 → L ≤ (seenE f st L).length := fun L hL => by
      induction L with
      | zero => exact Nat.zero_le _
      | succ L ih =>
        have := ih (by omega)
        obtain ⟨N, hN⟩ := seen_ext f st L
        cases N with
        | nil =>
          rw [List.append_nil] at hN
          exact absurd ⟨L, by omega, hN⟩ hno
        | cons a r =>
          rw [hN, List.length_append, List.length_cons]
          omega
    have h1 := grow (n + 1) (Nat.le_refl _)
    have h2 := nd_len 0 n (keysE (seenE f st (n + 1))) (seen_nd f st (n + 1)) fun x hx => by
      obtain ⟨e, he, rfl⟩ := List.mem_map.mp hx
      obtain ⟨l, hl', q, hq, rfl⟩ := seen_mem f st (n + 1) e he
      have hin := rows_in (n := (n : Int)) h0 hf l q hq
      have hul := hu l (by omega) q hq
      have : q.2 ≠ -1 := fun e => by
        rw [e, hl] at hul
        cases hul
      show 0 ≤ q.2 ∧ q.2 < 0 + (n : Int)
      omega
    have h3 : (keysE (seenE f st (n + 1))).length = (seenE f st (n + 1)).length := List.length_map ..
    omega
  obtain ⟨L, hL, hs⟩ := stop
  have hn := seen_none (lost := lost) (f := f) (st := st) L fun l hl => hu l (by omega)
  have hst := seen_stop hs
  have : seenE f st M = seenE f st (max M L) := (hM _ (Nat.le_max_left ..)).symm
  rw [this, hst _ (Nat.le_max_right ..)]
  exact hn
/-- a row's way -/
theorem rows_way {f : Int → List Int} {st : Int} : ∀ L, ∀ e ∈ rowsL f st L, e.1.length = L ∧ (st :: e.1)[L]? = some e.2 ∧ (∀ j, j ≤ L → ∃ q r, (st :: e.1)[j]? = some q ∧ (r, q) ∈ rowsL f st j) ∧ ∀ j, j < L → ∃ q a, (st :: e.1)[j]? = some q ∧ e.1[j]? = some a ∧ a ∈ f q
  | 0 => fun e he => by
    have := List.mem_singleton.mp he
    subst this
    refine ⟨rfl, rfl, fun j hj => ?_, fun j hj => absurd hj (Nat.not_lt_zero _)⟩
    have : j = 0 := by omega
    subst this
    exact ⟨st, [], rfl, List.mem_singleton.mpr rfl⟩
  | L + 1 => fun e he => by
    obtain ⟨q, hq, h⟩ := List.mem_flatMap.mp he
    obtain ⟨a, ha, rfl⟩ := List.mem_map.mp h
    obtain ⟨h1, h2, h3, h4⟩ := rows_way L q hq
    have hlen : (st :: q.1).length = L + 1 := by rw [List.length_cons, h1]
    have hpre : ∀ j, j ≤ L → (st :: (q.1 ++ [a]))[j]? = (st :: q.1)[j]? := fun j hj => by
      rw [show st :: (q.1 ++ [a]) = (st :: q.1) ++ [a] from rfl, List.getElem?_append_left (by omega)]
    have hlast : (st :: (q.1 ++ [a]))[L + 1]? = some a := by
      rw [show st :: (q.1 ++ [a]) = (st :: q.1) ++ [a] from rfl, List.getElem?_append_right (by omega), hlen, Nat.sub_self]
      rfl
    refine ⟨by show (q.1 ++ [a]).length = L + 1; rw [List.length_append, h1]; rfl, hlast, fun j hj => ?_, fun j hj => ?_⟩
    · rcases Nat.lt_or_ge j (L + 1) with hl | hl
      · obtain ⟨x, r, hx, hr⟩ := h3 j (by omega)
        exact ⟨x, r, by rw [hpre j (by omega)]; exact hx, hr⟩
      · have : j = L + 1 := by omega
        subst this
        exact ⟨a, q.1 ++ [a], hlast, he⟩
    · rcases Nat.lt_or_ge j L with hl | hl
      · obtain ⟨x, b, hx, hb, hm⟩ := h4 j hl
        exact ⟨x, b, by rw [hpre j (by omega)]; exact hx, by show (q.1 ++ [a])[j]? = some b; rw [List.getElem?_append_left (by omega)]; exact hb, hm⟩
      · have : j = L := by omega
        subst this
        refine ⟨q.2, a, by rw [hpre j (by omega)]; exact h2, ?_, ha⟩
        show (q.1 ++ [a])[j]? = some a
        rw [List.getElem?_append_right (by omega), h1, Nat.sub_self]
        rfl
theorem rows_len {f : Int → List Int} {st : Int} {c : Nat} (hf : ∀ p, (f p).length ≤ c) : ∀ L, (rowsL f st L).length ≤ c ^ L
  | 0 => Nat.le_refl 1
  | L + 1 => by
    have h := rows_len (st := st) hf L
    have : ∀ es : List (List Int × Int), (es.flatMap fun e => (f e.2).map fun a => (e.1 ++ [a], a)).length ≤ es.length * c := fun es => by
      induction es with
      | nil => exact Nat.zero_le _
      | cons e r ih =>
        rw [List.flatMap_cons, List.length_append, List.length_map, List.length_cons, Nat.add_mul, Nat.one_mul]
        have := hf e.2
        omega
    exact Nat.le_trans (this _) (Nat.mul_le_mul_right c h)
end NL

namespace NL
open PySem PySem.Spec PyProof.Rows L2
theorem sw_trueD {kx vx : Expr} {gs : List Comprehension} {scope : Scope} {pos py : Pos} {y : Str} {l : Nat} {env : Env} (hk : env.scope.kind = .function) (hy : env.scope.names.lookup y = some .local) (hl : (py.line == pos.line) = true)
    (ha : (scope.names.any fun (n, k) => n == y && (k == .local || k == .cell)) = false) : swapsWith (.DictComp kx vx gs scope pos) (some (.Name y py)) l env = pure true := by
  have ky : env.kindOf y = some .local := hy
  have hb : env.blockKind = .function := by unfold Env.blockKind; rw [hk]; rfl
  unfold swapsWith
  simp only [hb, ky, ha, Expr.pos, hl]
  rfl
/-- name = {k: v for ..} on one line, the name a local -/
theorem ps_setDc {X : Cx} {i : Nat} {y : Str} {py : Pos} {kx vx tg iter : Expr} {ifs : List Expr} {scope : Scope} {own : List (Str × Nat)} {pos spos : Pos} {wi : TI} {g : TG} {tt : TT} {tk tv : TE} (hc : X.calm = true) (hN : X.N.Nodup) (hy : X.N[i]? = some y) (hyl : X.env.scope.names.lookup y = some .local)
    (hsw : swapsWith (.DictComp kx vx [⟨tg, iter, ifs, 0⟩] scope pos) (some (.Name y py)) spos.line X.env = pure true) (hi : PI X tg iter wi) (ok : BlkOk X.N X.env.scope scope own)
    (hg : ∀ (s : Shared) (H : Hp) (C : Addr) (cl : List (Str × Addr)) (fp : List Addr), PG (X.blk s H scope (compEnvC scope cl C X.env) fp) tg g) (ht : ∀ (s : Shared) (H : Hp) (C : Addr) (cl : List (Str × Addr)) (fp : List Addr), PTs (X.blk s H scope (compEnvC scope cl C X.env) fp) ifs tt)
    (hk : ∀ (s : Shared) (H : Hp) (C : Addr) (cl : List (Str × Addr)) (fp : List Addr), PE (X.blk s H scope (compEnvC scope cl C X.env) fp) kx tk)
    (he : ∀ (s : Shared) (H : Hp) (C : Addr) (cl : List (Str × Addr)) (fp : List Addr), PE (X.blk s H scope (compEnvC scope cl C X.env) fp) vx tv) (hs : ∀ x, foldedSetIterable iter X.env x = pure x := by intro _; rfl) :
    PS X (.Assign [.Name y py] (.DictComp kx vx [⟨tg, iter, ifs, 0⟩] scope pos) spos) (tAsg (tDc wi g tt tk tv (own.map (·.2))) (gName i)) := by
  refine ⟨fun pins s σ H D I h => ?_⟩
  rw [exec_Assign_Name_used _ _ _ _ hsw]
  refine wpAny_bind (wpAny_standAt (wpAny_bind ?_))
  show wpAny _ X.A (do let _ ← comprehension (.DictComp kx vx [⟨tg, iter, ifs, 0⟩] scope pos) scope X.env (firstIterPos [⟨tg, iter, ifs, 0⟩] pos) newDict false (eval iter X.env) (some (assign (.Name y py) X.env))) _ _ s
  have h : tDc wi g tt tk tv (own.map (·.2)) σ H (fun x H1 => gName i x σ H1 D.nx) := h
  refine wpAny_bind (thn (dc_core (Qf := fun _ s' => SP X pins D .next s') hc hN I hi ok hg ht hk he hs h fun L C s' m H' I' q hn f => ?_) fun _ s' hq => wpAny_pure (wpAny_pure hq))
  show wpAny _ _ (assign (.Name y py) X.env (.ref L)) _ _ _
  refine wpAny_assign_Name (store_ok2 (v := V.ref L) I' hN hy (.inl hyl) rfl (fun s2 I2 ⟨a, sb, ha⟩ => ?_) (.inr hyl))
  obtain ⟨f0, f1, f2, f3, f4, f5⟩ := f
  have haC : C ≠ a := by
    rcases ha with z | z
    · rw [z]; exact f1
    · exact fun e => f4 y a z e.symm
  refine ⟨m, hn.sameBut sb haC, fun h3 sb3 => ?_⟩
  exact ⟨_, H', I2.turned (t' := s2.toks) (fun b o hb e => (sb3.2 b hb).trans e) f0 f1 f3 f4 f5, q⟩
theorem SameTp {H H' : Hp} (s : Same H H') : Tp H H' := Tp.same s
/-- the list of successors at a: f as a function -/
def SucA (H : Hp) (a : Addr) (f : Int → List Int) (n : Int) : Prop := ∃ xs, H a = some (.lst xs) ∧ ∀ p, -1 ≤ p → p < n → ∃ x, atI xs p = some x ∧ OptIn H (f p) x
structure SucG (f : Int → List Int) (n : Int) : Prop where
  mem : ∀ p, ∀ a ∈ f p, -1 ≤ a ∧ a < n
  few : n ≤ 46
inductive RowsAt (H : Hp) : List Ent → List (Key × V) → Prop
  | nil : RowsAt H [] []
  | cons {e : Ent} {v : V} {R : List Ent} {kvs : List (Key × V)} : OptIn H e.2 v → RowsAt H R kvs → RowsAt H (e :: R) ((Sum.inl e.1, v) :: kvs)
theorem RowsAt.tp {H H' : Hp} (t : Tp H H') : ∀ {R : List Ent} {kvs : List (Key × V)}, RowsAt H R kvs → RowsAt H' R kvs
  | _, _, .nil => .nil
  | _, _, .cons h r => .cons (h.tp t) (r.tp t)
theorem RowsAt.len {H : Hp} : ∀ {R : List Ent} {kvs : List (Key × V)}, RowsAt H R kvs → kvs.length = R.length
  | _, _, .nil => rfl
  | _, _, .cons _ r => congrArg (· + 1) r.len
theorem RowsAt.snoc {H : Hp} {e : Ent} {v : V} (h : OptIn H e.2 v) : ∀ {R : List Ent} {kvs : List (Key × V)}, RowsAt H R kvs → RowsAt H (R ++ [e]) (kvs ++ [(Sum.inl e.1, v)])
  | _, _, .nil => .cons h .nil
  | _, _, .cons g r => .cons g (r.snoc h)
theorem RowsAt.get {H : Hp} : ∀ {R : List Ent} {kvs : List (Key × V)}, RowsAt H R kvs → ∀ (i : Nat) (k : Key) (v : V), kvs[i]? = some (k, v) → ∃ e, R[i]? = some e ∧ k = Sum.inl e.1 ∧ OptIn H e.2 v
  | _, _, .nil, i, k, v, h => by simp at h
  | _, _, .cons g r, 0, k, v, h => by
    rw [List.getElem?_cons_zero] at h
    injection h with h
    injection h with h1 h2
    subst h1
    subst h2
    exact ⟨_, rfl, rfl, g⟩
  | _, _, .cons g r, i + 1, k, v, h => by
    rw [List.getElem?_cons_succ] at h
    obtain ⟨e, he, q⟩ := r.get i k v h
    exact ⟨e, by rw [List.getElem?_cons_succ]; exact he, q⟩
theorem RowsAt.no {H : Hp} {p : Int} : ∀ {R : List Ent} {kvs : List (Key × V)}, RowsAt H R kvs → p ∉ keysE R → valV kvs (Sum.inl p : Key) = none
  | _, _, .nil, _ => rfl
  | _, _, .cons (e := e) _ r, h => by
    have h1 : ¬ (Sum.inl e.1 : Key) = Sum.inl p := fun q => h (by
      injection q with q
      rw [← q]
      exact List.mem_cons_self ..)
    rw [valV_neg h1]
    exact r.no fun q => h (List.mem_cons_of_mem _ q)
theorem RowsAt.yes {H : Hp} : ∀ {R : List Ent} {kvs : List (Key × V)}, RowsAt H R kvs → (keysE R).Nodup → ∀ e ∈ R, ∃ v, valV kvs (Sum.inl e.1 : Key) = some v ∧ OptIn H e.2 v
  | _, _, .nil, _, e, h => nomatch h
  | _, _, .cons (e := q) (v := v) (R := R) g r, hd, e, h => by
    have hd' := List.nodup_cons.mp (show (q.1 :: keysE R).Nodup from hd)
    rcases List.mem_cons.mp h with rfl | h
    · exact ⟨v, valV_pos rfl, g⟩
    · obtain ⟨u, hu, ho⟩ := r.yes hd'.2 e h
      refine ⟨u, ?_, ho⟩
      rw [valV_neg (fun z => hd'.1 (by
        injection z with z
        rw [show q.1 = e.1 from z]
        exact List.mem_map_of_mem h))]
      exact hu
theorem RowsAt.put {H : Hp} {R : List Ent} {kvs : List (Key × V)} {p : Int} {row : List Int} {v : V} (r : RowsAt H R kvs) (hn : p ∉ keysE R) (h : OptIn H row v) : RowsAt H (insE R (p, row)) (putK kvs (Sum.inl p : Key) v) := by
  rw [putK_new v (r.no hn), show insE R (p, row) = R ++ [(p, row)] by unfold insE; rw [if_neg hn]]
  exact r.snoc (e := (p, row)) h
structure GoodR (n : Int) (R : List Ent) : Prop where
  nd : (keysE R).Nodup
  inn : ∀ e ∈ R, -1 ≤ e.1 ∧ e.1 < n
  len : ∀ e ∈ R, e.2.length ≤ R.length
theorem GoodR.few {n : Int} {R : List Ent} (h : GoodR n R) (h0 : 0 ≤ n) : R.length ≤ n.toNat + 1 := by
  have := nd_len (-1) (n.toNat + 1) (keysE R) h.nd fun x hx => by
    obtain ⟨e, he, rfl⟩ := List.mem_map.mp hx
    have := h.inn e he
    omega
  rw [show (keysE R).length = R.length from List.length_map ..] at this
  exact this
theorem ins_at {R : List Ent} {e : Ent} : insE R e = R ∨ insE R e = R ++ [e] := by
  unfold insE
  split
  · exact .inl rfl
  · exact .inr rfl
theorem GoodR.ins {n : Int} {R : List Ent} {p : Int} {row : List Int} (h : GoodR n R) (hp : -1 ≤ p ∧ p < n) (hr : row.length ≤ R.length) : GoodR n (insE R (p, row ++ [p])) := by
  have hnd := ins_nd h.nd (p, row ++ [p])
  rcases ins_at (R := R) (e := (p, row ++ [p])) with e | e
  · rw [e]
    exact h
  · rw [e] at hnd ⊢
    refine ⟨hnd, fun q hq => ?_, fun q hq => ?_⟩
    · rcases List.mem_append.mp hq with hq | hq
      · exact h.inn q hq
      · rw [List.mem_singleton.mp hq]
        exact hp
    · rw [List.length_append]
      rcases List.mem_append.mp hq with hq | hq
      · exact Nat.le_succ_of_le (h.len q hq)
      · rw [List.mem_singleton.mp hq]
        show (row ++ [p]).length ≤ R.length + 1
        rw [List.length_append]
        exact Nat.succ_le_succ hr
section
variable {P : Program} {w : World} {K : PySem.W.Frag} {mg : Str → Option Value} {base : Heap}
/-! ### _least_rows -/
def spLeast : Sp := fun vs H Q _ => ∃ (a b : Addr) (f : Int → List Int) (n st : Int), vs = [.ref a, .ref b] ∧ SucA H a f n ∧ SucG f n ∧ H b = some (.tup [.int st]) ∧ -1 ≤ st ∧ st < n ∧
  ∀ (D : Addr) (kvs : List (Key × V)) (R : List Ent) (H' : Hp), Same H H' → H D = none → H' D = some (.dK kvs) → RowsAt H' R kvs → GoodR n R → Ended f st R → Q (.ref D) H'
/-- the state within a level -/
structure Lv (H0 H : Hp) (D wl fl : Addr) (n : Int) (B R : List Ent) (kvs : List (Key × V)) (ws : List Int) (F : List Int) : Prop where
  s : Same H0 H
  d : H D = some (.dK kvs)
  w : H wl = some (.lst (ws.map V.int))
  f : H fl = some (.lst (F.map V.int))
  r : RowsAt H R kvs
  g : GoodR n R
  k : ∃ N, R = B ++ N ∧ F = keysE N
theorem ok_least_rows (T : Txt K mg) : FnOk P w K mg base CX0 1 T.a_least_rows T.d_least_rows P_least_rows spLeast := by
  refine T.F_least_rows.ok sc_least_rows (fun vs H Q E h => ?_) (fun cdv A outer s H vs Q E hr h => ?_)
  · obtain ⟨a, b, f, n, st, rfl, _⟩ := h
    rfl
  obtain ⟨a, b, f, n, st, rfl, ⟨xs, ea, hxs⟩, hf, eb, st0, st1, q⟩ := h
  have hn0 : 0 ≤ n := by omega
  refine ⟨_, (pss_cons (ps_setDc (i := 2) (own := [("start", 3)]) (g := (gName 3)) (tt := tYes) rfl sc_least_rows.nd rfl rfl (sw_trueD rfl rfl rfl (by decide +kernel)) (pi_tup (pv 1)) (blkOk_by (N := N_least_rows) (sc := defScope s_least_rows) (by decide +kernel)) (fun _ _ _ _ _ => (pg_name (i := 3) sc_least_rows.nd rfl (Or.inl rfl))) (fun _ _ _ _ _ => pts_nil) (fun _ _ _ _ _ => (pv 3)) (fun _ _ _ _ _ => (pe_tup (pa_cons (pv 3) pa_nil))))
    (pss_cons (ps_set (i := 4) sc_least_rows.nd rfl (Or.inl rfl) (pe_callTy call_list_of (by rfl) T.z_list (by decide +kernel) (pa_cons (pv 1) pa_nil)))
    (pss_cons (ps_while PassesOwn.never (pt_truth (pv 4) (fun _ => rfl))
    (pss_cons (ps_set (i := 5) sc_least_rows.nd rfl (Or.inl rfl) (pe_lst pa_nil))
    (pss_cons (ps_for  PassesOwn.never rfl (pi_list (pv 4)) (pg_name (i := 6) sc_least_rows.nd rfl (Or.inl rfl))
    (pss_one (ps_for  PassesOwn.never rfl (pi_tup (pe_ix ix_list (pv 0) (pv 6) (fun _ _ => rfl))) (pg_name (i := 7) sc_least_rows.nd rfl (Or.inl rfl))
    (pss_one (ps_if (pt_cmp (pc_dnotin (hu_of hr) (pv 7) (pv 2)))
    (pss_cons (ps_dput (hu_of hr) (pv 2) (pv 7) (pe_op op_catA (pe_dget (hu_of hr) (pv 2) (pv 6) (fun _ _ => rfl)) (pe_tup (pa_cons (pv 7) pa_nil))) rfl)
    (pss_one (ps_expr (pe_bm PySem.F.plainAttrs_list PySem.F.slot_list_append PySem.F.type_list_append mt_append (pv 5) (pa_cons (pv 7) pa_nil)))))
    pss_nil)))))
    (pss_one (ps_set (i := 4) sc_least_rows.nd rfl (Or.inl rfl) (pv 5))))))
    (pss_one (ps_ret (pv 2)))))), ?_⟩
  refine ⟨_, rfl, b, rfl, ⟨_, sqt eb⟩, fun D hD => ?_⟩
  refine dc_tup (K := K) (a := b) (xs := [V.int st]) (fun (j : Nat) (H' : Hp) => Same H H' ∧ ∃ kvs, H' D = some (.dK kvs) ∧ RowsAt H' (if j = 0 then [] else [(st, [st])]) kvs) ?_ ?_ ?_ ?_
  · exact ⟨same_new hD _, [], upd_same, .nil⟩
  · rintro i H' _ ⟨s1, _⟩
    exact sqt (s1 _ _ eb)
  · rintro i x H1 hx ⟨s1, kvs, e1, hR⟩
    have hi : i = 0 := by
      cases i with
      | zero => rfl
      | succ i => simp at hx
    subst hi
    have : V.int st = x := by simpa using hx
    subst this
    refine ⟨rfl, yes_if ⟨_, rfl, _, rfl, Nat.le_of_ble_eq_true rfl, fun t ht => ?_⟩⟩
    obtain ⟨H2, e2, s2, k2⟩ := newH ht (.tup [V.int st])
    rw [e2]
    have hk : kvs = [] := by
      rw [if_pos rfl] at hR
      cases hR
      rfl
    subst hk
    refine ⟨_, Sum.inl st, rfl, s2 _ _ e1, by decide, same_put (s1.trans s2) hD, _, upd_same, ?_⟩
    rw [if_neg (by decide)]
    have t3 : Tp H2 (upd H2 D (.dK (putK [] (Sum.inl st : Key) (.ref t)))) := fun a xs e => by
      have ne : a ≠ D := fun z => by
        rw [z, s2 _ _ e1] at e
        cases e
      rw [upd_ne ne]
      exact e
    exact RowsAt.cons (e := (st, [st])) ⟨t, rfl, t3 _ _ k2⟩ .nil
  rintro H1 ⟨s1, kvs1, e1, hR1⟩
  rw [if_neg (show ¬ [V.int st].length = 0 from Nat.one_ne_zero)] at hR1
  have hDne : ∀ {x : Addr} {u : HO}, H x = some u → x ≠ D := fun h z => by
    rw [z, hD] at h
    cases h
  refine ⟨_, rfl, b, _, rfl, .inr (sqt (s1 _ _ eb)), fun wl hwl => ?_⟩
  obtain ⟨H2, e2, s2, k2⟩ := newH hwl (.lst [V.int st])
  rw [e2]
  have g1 : GoodR n [(st, [st])] := ⟨List.nodup_cons.mpr ⟨fun h => (nomatch h), List.nodup_nil⟩, fun e he => by rw [List.mem_singleton.mp he]; exact ⟨st0, st1⟩, fun e he => by rw [List.mem_singleton.mp he]; exact Nat.le_refl 1⟩
  -- level by level
  refine ⟨fun m σ H' => ∃ (L : Nat) (N : List Ent) (kvs : List (Key × V)) (wl : Addr) (y3 y5 y6 y7 : Option V), σ = [some (.ref a), some (.ref b), some (.ref D), y3, some (.ref wl), y5, y6, y7] ∧ Same H H' ∧ H' D = some (.dK kvs) ∧ RowsAt H' (seenE f st (L + 1)) kvs ∧ GoodR n (seenE f st (L + 1)) ∧
    H wl = none ∧ H' wl = some (.lst ((keysE N).map V.int)) ∧ seenE f st (L + 1) = seenE f st L ++ N ∧ m = (n.toNat + 1 - (seenE f st (L + 1)).length) + (if N = [] then 0 else 1), ⟨_, 0, [(st, [st])], kvs1, wl, _, _, _, _, rfl, s1.trans s2, s2 _ _ e1, hR1.tp (SameTp s2), g1, s1.free hwl, k2, rfl, rfl⟩, ?_⟩
  rintro m σ H3 ⟨L, N, kvs, wl, y3, y5, y6, y7, rfl, s3, e3, hR3, g3, hwl0, kw, hN, hm⟩
  refine ⟨_, rfl, !((keysE N).map V.int).isEmpty, .inl ⟨_, sqd kw, rfl⟩, ?_⟩
  by_cases hNe : N = []
  · subst hNe
    refine ifF rfl ?_
    refine ⟨_, rfl, q D kvs _ H3 s3 hD e3 hR3 g3 ⟨L + 1, rfl, fun K hK => ?_⟩⟩
    rw [List.append_nil] at hN
    rw [seen_stop hN K (by omega), hN]
  refine ifT (by
    cases N with
    | nil => exact absurd rfl hNe
    | cons a r => rfl) ?_
  generalize hB : seenE f st (L + 1) = B at *
  refine ⟨fun σ H' => ∃ (N' : List Ent) (kvs : List (Key × V)) (wl : Addr) (y3 y5 y6 y7 : Option V), σ = [some (.ref a), some (.ref b), some (.ref D), y3, some (.ref wl), y5, y6, y7] ∧ Same H H' ∧ H' D = some (.dK kvs) ∧ RowsAt H' (seenE f st (L + 2)) kvs ∧ GoodR n (seenE f st (L + 2)) ∧
    H wl = none ∧ H' wl = some (.lst ((keysE N').map V.int)) ∧ seenE f st (L + 2) = B ++ N', ?_, ?_⟩
  · rintro σ' H' ⟨N', kvs', wl', z3, z5, z6, z7, rfl, t3, f3, hR', gR', hw', kw', hN'⟩
    refine ⟨_, ?_, L + 1, N', kvs', wl', z3, z5, z6, z7, rfl, t3, f3, hR', gR', hw', kw', by rw [hN', hB], rfl⟩
    have f1 := g3.few hn0
    have f2 := gR'.few hn0
    rw [hm, if_neg hNe]
    cases N' with
    | nil =>
      rw [List.append_nil] at hN'
      rw [hN', if_pos rfl]
      omega
    | cons c r =>
      rw [if_neg (by simp)]
      rw [hN', List.length_append, List.length_cons] at f2 ⊢
      omega
  -- a level
  refine ⟨Nat.zero_le _, fun fl hfl => ?_⟩
  obtain ⟨H4, e4, s4, k4⟩ := newH hfl (.lst [])
  rw [e4]
  have hwD : wl ≠ D := fun z => by
    rw [z, e3] at kw
    cases kw
  have hflD : fl ≠ D := fun z => by
    rw [z, e3] at hfl
    cases hfl
  have hflw : fl ≠ wl := fun z => by
    rw [z, kw] at hfl
    cases hfl
  have hDH : H D = none := hD
  have hfH : H fl = none := s3.free hfl
  have L4 : Lv H H4 D wl fl n B B kvs (keysE N) [] := ⟨s3.trans s4, s4 _ _ e3, s4 _ _ kw, k4, hR3.tp (SameTp s4), g3, [], (List.append_nil _).symm, rfl⟩
  refine ⟨_, rfl, wl, rfl, ⟨_, sqd L4.w⟩, ?_⟩
  refine for_list (K := K) (a := wl) (xs := (keysE N).map V.int) (fun (i : Nat) (σ : L2.St) (H' : Hp) => ∃ (R : List Ent) (kvs : List (Key × V)) (F : List Int) (y6 y7 : Option V), σ = [some (.ref a), some (.ref b), some (.ref D), y3, some (.ref wl), some (.ref fl), y6, y7] ∧ R = (N.take i).foldl (stepE f) B ∧ Lv H H' D wl fl n B R kvs (keysE N) F) ?_ ?_ ?_ ?_
  · exact ⟨B, kvs, [], y6, y7, rfl, rfl, L4⟩
  · rintro i σ H' _ ⟨R, kvs', F, y6', y7', rfl, _, hL⟩
    exact sqd hL.w
  · rintro i x σ H5 hx ⟨R, kvs', F, y6', y7', rfl, hRe, hL⟩
    rw [show keysE N = N.map (·.1) from rfl, List.map_map, List.getElem?_map] at hx
    obtain ⟨e, he, rfl⟩ := Option.map_eq_some_iff.mp hx
    have heN := List.mem_of_getElem? he
    have heB : e ∈ B := by
      rw [hN]
      exact List.mem_append_right _ heN
    have heR : e ∈ R := by
      obtain ⟨M, hM, _⟩ := hL.k
      rw [hM]
      exact List.mem_append_left _ heB
    have hin := hL.g.inn e heR
    obtain ⟨x, hat, t, rfl, et⟩ := hxs e.1 hin.1 hin.2
    have kt := hL.s _ _ et
    refine ⟨_, rfl, _, rfl, a, xs, e.1, _, rfl, rfl, sqd (hL.s _ _ ea), hat, t, rfl, ⟨_, sqt kt⟩, ?_⟩
    refine for_tup (K := K) (a := t) (xs := (f e.1).map V.int) (fun (j : Nat) (σ : L2.St) (H' : Hp) => ∃ (R' : List Ent) (kvs : List (Key × V)) (F : List Int) (y7 : Option V), σ = [some (.ref a), some (.ref b), some (.ref D), y3, some (.ref wl), some (.ref fl), some (.int e.1), y7] ∧ R' = ((f e.1).take j).foldl (fun R a => insE R (a, e.2 ++ [a])) R ∧ e ∈ R' ∧ Lv H H' D wl fl n B R' kvs (keysE N) F) ?_ ?_ ?_ ?_
    · exact ⟨R, kvs', F, _, rfl, rfl, heR, hL⟩
    · rintro j σ H' _ ⟨R', kvs, F, y7, rfl, _, _, hL'⟩
      exact sqt (hL'.s _ _ et)
    · rintro j x σ H6 hx6 ⟨R', kvs6, F6, y7, rfl, hR6, heR6, hL6⟩
      rw [List.getElem?_map] at hx6
      obtain ⟨c, hc, rfl⟩ := Option.map_eq_some_iff.mp hx6
      have hcm := hf.mem _ c (List.mem_of_getElem? hc)
      have few := hL6.g.few hn0
      have fn := hf.few
      have hlk := hL6.r.len
      have hnext : ((f e.1).take (j + 1)).foldl (fun R a => insE R (a, e.2 ++ [a])) R = insE R' (c, e.2 ++ [c]) := by
        rw [List.take_add_one, hc, List.foldl_append, ← hR6]
        rfl
      refine ⟨_, rfl, _, rfl, D, _, rfl, DGet.k (k := Sum.inl c) hL6.d, _, rfl, ?_⟩
      by_cases hm : c ∈ keysE R'
      · obtain ⟨e2, he2, hc2⟩ := List.mem_map.mp hm
        obtain ⟨v, hv, _⟩ := hL6.r.yes hL6.g.nd e2 he2
        have hc3 : e2.1 = c := hc2
        rw [hc3] at hv
        refine ifF (by rw [hv] <;> rfl) ?_
        refine ⟨R', kvs6, F6, _, rfl, ?_, heR6, hL6⟩
        rw [hnext]
        unfold insE
        rw [if_pos hm]
      · refine ifT (by rw [hL6.r.no hm] <;> rfl) ?_
        obtain ⟨v, hv, tv, rfl, ev⟩ := hL6.r.yes hL6.g.nd e heR6
        refine ⟨_, rfl, _, rfl, D, _, rfl, (hv ▸ DGet.k (k := Sum.inl e.1) hL6.d), ?_⟩
        refine ⟨_, rfl, Nat.le_of_ble_eq_true rfl, fun tc htc => ?_⟩
        obtain ⟨H7, e7, s7, k7⟩ := newH htc (.tup [V.int c])
        rw [e7]
        have hel := hL6.g.len e heR6
        refine catA_of (s7 _ _ ev) k7 (by rw [List.length_map, List.length_singleton]; omega) fun p8 H8 s8 k8 => ?_
        have s78 := s7.trans s8
        have d8 := s78 _ _ hL6.d
        refine ⟨_, rfl, _, rfl, D, _, rfl, DPut.k (k := Sum.inl c) d8 (big' (by omega)), ?_⟩
        have oc : OptIn H8 (e.2 ++ [c]) (.ref p8) := ⟨p8, rfl, by rw [k8, ints_snoc2]⟩
        have r9 := (hL6.r.tp (SameTp s78)).put hm oc
        have g9 := hL6.g.ins (p := c) (row := e.2) hcm hel
        generalize hkk : putK kvs6 (Sum.inl c : Key) (V.ref p8) = kvs9 at r9 ⊢
        have t9 : Tp H8 (upd H8 D (.dK kvs9)) := fun a xs e => by
          have ne : a ≠ D := fun z => by
            rw [z, d8] at e
            cases e
          rw [upd_ne ne]
          exact e
        have f8 := s78 _ _ hL6.f
        have w8 := s78 _ _ hL6.w
        have s9 : Same H (upd H8 D (.dK kvs9)) := same_put (hL6.s.trans s78) hDH
        refine ⟨_, rfl, .inl ⟨rfl, _, sqd (by rw [upd_ne hflD]; exact f8)⟩, _, rfl, fl, _, _, rfl, rfl, by rw [upd_ne hflD]; exact f8, big' ?_, ?_⟩
        · obtain ⟨M, hM, hF⟩ := hL6.k
          rw [List.length_map, hF, show (keysE M).length = M.length from List.length_map ..]
          rw [hM, List.length_append] at few
          omega
        have e10 : upd (upd H8 D (.dK kvs9)) fl (.lst (F6.map V.int ++ [V.int c])) fl = some (.lst ((F6 ++ [c]).map V.int)) := by rw [upd_same, ints_snoc2]
        have t10 : Tp (upd H8 D (.dK kvs9)) (upd (upd H8 D (.dK kvs9)) fl (.lst (F6.map V.int ++ [V.int c]))) := fun a xs e => by
          have ne : a ≠ fl := fun z => by
            rw [z, upd_ne hflD, f8] at e
            cases e
          rw [upd_ne ne]
          exact e
        refine ⟨insE R' (c, e.2 ++ [c]), kvs9, F6 ++ [c], _, rfl, hnext.symm, ?_, ?_⟩
        · obtain ⟨M, hM, _⟩ := ins_ext R' (c, e.2 ++ [c])
          rw [hM]
          exact List.mem_append_left _ heR6
        · refine ⟨same_put s9 hfH, by rw [upd_ne hflD.symm, upd_same], by rw [upd_ne hflw.symm, upd_ne hwD]; exact w8, e10, (r9.tp t9).tp t10, g9, ?_⟩
          obtain ⟨M, hM, hF⟩ := hL6.k
          refine ⟨M ++ [(c, e.2 ++ [c])], ?_, by rw [keysE_app, hF]; rfl⟩
          rw [show insE R' (c, e.2 ++ [c]) = R' ++ [(c, e.2 ++ [c])] by unfold insE; rw [if_neg hm], hM, List.append_assoc]
    · rintro σ H6 ⟨R', kvs6, F6, y7, rfl, hR6, heR6, hL6⟩
      rw [List.length_map, List.take_length] at hR6
      refine ⟨R', kvs6, F6, _, _, rfl, ?_, hL6⟩
      rw [List.take_add_one, he, List.foldl_append, ← hRe, hR6]
      rfl
  · rintro σ H5 ⟨R, kvs', F, y6', y7', rfl, hRe, hL⟩
    rw [show ((keysE N).map V.int).length = N.length by rw [List.length_map]; exact List.length_map .., List.take_length] at hRe
    have hlv := (seen_level f st L N (by rw [hB]; exact hN)).1
    rw [hB] at hlv
    rw [← hlv] at hRe
    obtain ⟨N', h1, h2⟩ := hL.k
    refine ⟨_, rfl, N', kvs', fl, y3, _, y6', y7', rfl, hL.s, hL.d, by rw [← hRe]; exact hL.r, by rw [← hRe]; exact hL.g, hfH, by rw [hL.f, h2], by rw [← hRe]; exact h1⟩
end
end NL

namespace NL
open PySem PySem.Spec PyProof.Rows L2
/-! ### the successors by a strategy -/
def scO (A : Ar) (G : List Int) (k : Nat) : List Int := match A[k]?, G[k]? with
  | some os, some g => if g = -1 then [] else (os[g.toNat]?).getD []
  | _, _ => []
def scF (A : Ar) (G : List Int) (p : Int) : List Int := if 0 ≤ p then scO A G p.toNat else []
structure StG (A : Ar) (G : List Int) : Prop where
  len : G.length = A.length
  ix : ∀ (k : Nat) (g : Int) (os : Pos'), G[k]? = some g → A[k]? = some os → g = -1 ∨ (0 ≤ g ∧ g < os.length)
theorem sc_good {A : Ar} {G : List Int} (h : ArG A) : SucG (scF A G) A.length := by
  refine ⟨fun p a ha => ?_, by have := h.1; omega⟩
  unfold scF at ha
  split at ha
  · unfold scO at ha
    split at ha
    · rename_i os g h1 h2
      split at ha
      · cases ha
      · cases h3 : os[g.toNat]? with
        | none =>
          rw [h3] at ha
          cases ha
        | some o =>
          rw [h3] at ha
          exact ((h.2 os (List.mem_of_getElem? h1)).2 o (List.mem_of_getElem? h3)).mem a ha
    · cases ha
  · cases ha
theorem sc_len {A : Ar} {G : List Int} (h : ArG A) (p : Int) : (scF A G p).length ≤ A.length + 1 := by
  have nd : (scF A G p).Nodup ∧ ∀ a ∈ scF A G p, -1 ≤ a ∧ a < A.length := by
    refine ⟨?_, (sc_good h).mem p⟩
    unfold scF
    split
    · unfold scO
      split
      · rename_i os g h1 h2
        split
        · exact List.nodup_nil
        · cases h3 : os[g.toNat]? with
          | none => exact List.nodup_nil
          | some o => exact ((h.2 os (List.mem_of_getElem? h1)).2 o (List.mem_of_getElem? h3)).asc.imp fun h => Int.ne_of_lt h
      · exact List.nodup_nil
    · exact List.nodup_nil
  exact nd_len (-1) (A.length + 1) _ nd.1 fun x hx => by
    have := nd.2 x hx
    omega
def lostB (A : Ar) (G Kp : List Int) (p : Int) : Bool := (scF A G p).isEmpty || !decide (p ∈ Kp)
theorem upd_old {H0 H1 H2 : Hp} {D : Addr} {u : HO} (s : Same H0 H1) (hD : H0 D = none) (k : ∀ b o, b ≠ D → H1 b = some o → H2 b = some o) : Same H0 (upd H2 D u) := fun b o e => by
  have ne : b ≠ D := fun z => by
    rw [z, hD] at e
    cases e
  rw [upd_ne ne]
  exact k b o ne (s _ _ e)
theorem dp_ints {K : PySem.W.Frag} {H : Hp} : ∀ l : List Int, DpAll K H (l.map V.int) (l.map PyData.int)
  | [] => .nil
  | a :: r => .cons (.int a) (dp_ints r)
theorem lay_ints : ∀ l : List Int, PyData.canLayAll0 (l.map PyData.int) = true ∧ PyData.depthAll (l.map PyData.int) = 0
  | [] => ⟨rfl, rfl⟩
  | a :: r => by
    obtain ⟨h1, h2⟩ := lay_ints r
    refine ⟨?_, ?_⟩
    · show (true && PyData.canLayAll0 (r.map PyData.int)) = true
      rw [h1]
      rfl
    · show max 0 (PyData.depthAll (r.map PyData.int)) = 0
      rw [h2]
      rfl
theorem shaped_tup (l : List Int) : SeqAt.shaped (.tuple (l.map PyData.int)) = true := by
  obtain ⟨h1, h2⟩ := lay_ints l
  show (PyData.canLayAll0 (l.map PyData.int) && decide (PyData.depthAll (l.map PyData.int) + 1 ≤ 64)) = true
  rw [h1, h2]
  rfl
theorem rows_one {H : Hp} : ∀ {R : List Ent} {kvs : List (Key × V)} {i : Nat} {k : Key} {u u' : V}, RowsAt H R kvs → (keysE R).Nodup → kvs[i]? = some (k, u) → valV kvs k = some u' → u' = u
  | _, _, i, k, u, u', .nil, _, h, _ => by simp at h
  | _, _, 0, k, u, u', .cons g r, _, h, hv => by
    rw [List.getElem?_cons_zero] at h
    injection h with h
    injection h with h1 h2
    subst h1
    rw [valV_pos rfl] at hv
    injection hv with hv
    rw [← hv, h2]
  | _, _, i + 1, k, u, u', .cons (e := q) (R := R) g r, hd, h, hv => by
    rw [List.getElem?_cons_succ] at h
    have hd' := List.nodup_cons.mp (show (q.1 :: keysE R).Nodup from hd)
    obtain ⟨e, he, rfl, _⟩ := r.get i k u h
    rw [valV_neg (fun z => hd'.1 (by
      injection z with z
      rw [show q.1 = e.1 from z]
      exact List.mem_map_of_mem (List.mem_of_getElem? he)))] at hv
    exact rows_one r hd'.2 h hv
theorem ans_at {lost : Int → Bool} : ∀ {R : List Ent} {i : Nat} {e : Ent}, (∀ k q, k < i → R[k]? = some q → lost q.1 = false) → R[i]? = some e → lost e.1 = true → ansE lost R = some e
  | [], i, e, _, h, _ => by simp at h
  | q :: r, 0, e, _, h, hl => by
    have : q = e := by simpa using h
    subst this
    unfold ansE
    rw [List.find?_cons, hl]
  | q :: r, i + 1, e, hu, h, hl => by
    have h0 := hu 0 q (Nat.succ_pos i) rfl
    unfold ansE
    rw [List.find?_cons, h0]
    exact ans_at (i := i) (fun k z hk hz => hu (k + 1) z (by omega) (by rw [List.getElem?_cons_succ]; exact hz)) (by rw [List.getElem?_cons_succ] at h; exact h) hl
theorem ans_no {lost : Int → Bool} {R : List Ent} (h : ∀ (k : Nat) q, R[k]? = some q → lost q.1 = false) : ansE lost R = none := by
  refine List.find?_eq_none.mpr fun e he => ?_
  obtain ⟨k, hk⟩ := List.mem_iff_getElem?.mp he
  rw [h k e hk]
  exact Bool.false_ne_true
section
variable {P : Program} {w : World} {K : PySem.W.Frag} {mg : Str → Option Value} {base : Heap}
/-! ### _successors_by -/
def spSucBy : Sp := fun vs H Q _ => ∃ (v : V) (A : Ar) (g : Addr) (G : List Int), vs = [v, .ref g] ∧ ArIn H A v ∧ ArG A ∧ H g = some (.tup (G.map V.int)) ∧ StG A G ∧
  ∀ a H', Same H H' → SucA H' a (scF A G) A.length → Q (.ref a) H'
theorem ok_successors_by (T : Txt K mg) : FnOk P w K mg base CX0 1 T.a_successors_by T.d_successors_by P_successors_by spSucBy := by
  refine T.F_successors_by.ok sc_successors_by (fun vs H Q E h => ?_) (fun cdv A outer s H vs Q E hr h => ?_)
  · obtain ⟨v, A, g, G, rfl, _⟩ := h
    rfl
  obtain ⟨v, A0, g, G, rfl, ⟨b0, xs, rfl, e0, hxs⟩, hG, eg, hS, q⟩ := h
  have hxl := hxs.1
  have h46 := hG.1
  refine ⟨_, (pss_one (ps_ret (pe_op op_cat (pe_lc (own := [("index", 2), ("options", 3)]) (g := (gTup K 2 (gCons (gName 2) (gCons (gName 3) gNil)))) (tt := tYes) rfl sc_successors_by.nd (RZ.pi_zipA (by rfl) T.z_zip (pa_cons (pv 1) (pa_cons (pv 0) pa_nil))) (blkOk_by (N := N_successors_by) (sc := defScope s_successors_by) (by decide +kernel)) (fun _ _ _ _ _ => (pg_tup rfl (pgs_cons (pg_name (i := 2) sc_successors_by.nd rfl (Or.inl rfl)) (pgs_cons (pg_name (i := 3) sc_successors_by.nd rfl (Or.inl rfl)) pgs_nil)))) (fun _ _ _ _ _ => pts_nil) (fun _ _ _ _ _ => (pe_ifExp (pt_cmpR op_eq (pv 2) (pe_un un_neg pe_int) (nomark _)) (pe_tup pa_nil) (pe_ix (ix_tupK (K := K) rfl) (pv 3) (pv 2) (fun _ _ => rfl))))) (pe_lst (pa_cons (pe_tup pa_nil) pa_nil))))), ?_⟩
  refine ⟨_, rfl, _, rfl, g, b0, _, _, rfl, .inr ⟨sqt eg, sqt e0, fun D hD => ?_⟩⟩
  refine lc_pairs (K := K) (a := g) (b := b0) (xs := G.map V.int) (ys := xs) A0.length (by rw [List.length_map, hS.len, hxl, Nat.min_self]) (fun (j : Nat) (H' : Hp) => Same H H' ∧ ∃ zs, H' D = some (.lst zs) ∧ Each (OptIn H') ((List.range j).map (scO A0 G)) zs) ?_ ?_ ?_ ?_
  · exact ⟨same_new hD _, [], upd_same, .nil⟩
  · rintro j H' ⟨s1, _⟩
    exact ⟨sqt (s1 _ _ eg), sqt (s1 _ _ e0)⟩
  · rintro j x y t H1 hx hy ⟨s1, zs, e1, hzs⟩ ht
    rw [List.getElem?_map] at hx
    obtain ⟨gi, hgi, rfl⟩ := Option.map_eq_some_iff.mp hx
    have hj : j < A0.length := by
      have := (List.getElem?_eq_some_iff.mp hgi).1
      rw [hS.len] at this
      exact this
    have hos := List.getElem?_eq_getElem hj
    generalize A0[j] = os at hos
    obtain ⟨b1, ys, rfl, e1', hys⟩ := hxs.2 j os y hos hy
    obtain ⟨H2, e2, s2, k2⟩ := newH ht (.tup [V.int gi, V.ref b1])
    rw [e2]
    have s12 := s1.trans s2
    have hzl := hzs.1
    rw [List.length_map, List.length_range] at hzl
    have fin : ∀ (u : V) (H3 : Hp), Same H2 H3 → OptIn H3 (scO A0 G j) u → ∃ acc, H3 D = some (.lst acc) ∧ acc.length < sizeLine ∧ (Same H (upd H3 D (.lst (acc ++ [u]))) ∧ ∃ zs, (upd H3 D (.lst (acc ++ [u]))) D = some (.lst zs) ∧ Each (OptIn (upd H3 D (.lst (acc ++ [u])))) ((List.range (j + 1)).map (scO A0 G)) zs) := fun u H3 s3 hu => by
      have d3 := (s2.trans s3) _ _ e1
      refine ⟨zs, d3, big' (by omega), same_put (s12.trans s3) hD, _, upd_same, ?_⟩
      have tt : Tp H3 (upd H3 D (.lst (zs ++ [u]))) := tp_put Tp.refl d3
      rw [List.range_succ, List.map_append]
      exact (hzs.mono fun o x => OptIn.tp (((SameTp (s2.trans s3)).trans tt))).snoc (hu.tp tt)
    refine ⟨t, _, rfl, sqt k2, rfl, _, _, rfl, _, _, rfl, rfl, rfl, yes_if ?_⟩
    refine ⟨_, rfl, _, rfl, rfl, _, rfl, ?_⟩
    refine ite2 (fun z => ?_) (fun z => ?_)
    · have hg1 : gi = -1 := int_eq z
      refine ⟨Nat.zero_le _, fun te hte => ?_⟩
      refine fin _ _ (same_new hte _) ⟨te, rfl, ?_⟩
      rw [upd_same]
      unfold scO
      rw [hos, hgi]
      simp [hg1]
    · have hg1 : gi ≠ -1 := int_ne z
      have hix := (hS.ix j gi os hgi hos).resolve_left hg1
      obtain ⟨o, x, ho, hat, hox⟩ := hys.atI hix.1 hix.2
      refine ⟨_, rfl, _, rfl, b1, _, _, _, rfl, rfl, sqt (s12 _ _ e1'), hat, ?_⟩
      refine fin _ _ (Same.refl _) ?_
      have : scO A0 G j = o := by
        unfold scO
        rw [hos, hgi]
        simp [hg1, ho]
      rw [this]
      exact hox.tp (SameTp s12)
  · rintro H1 ⟨s1, zs, e1, hzs⟩
    have hzl := hzs.1
    rw [List.length_map, List.length_range] at hzl
    refine ⟨Nat.zero_le _, fun te hte => ?_⟩
    obtain ⟨H2, e2, s2, k2⟩ := newH hte (.tup [])
    rw [e2]
    refine ⟨Nat.le_of_ble_eq_true rfl, fun l hl => ?_⟩
    obtain ⟨H3, e3, s3, k3⟩ := newH hl (.lst [V.ref te])
    rw [e3]
    refine ⟨D, l, _, _, rfl, rfl, (s2.trans s3) _ _ e1, k3, big (by rw [List.length_singleton]; omega), fun r hr' => ?_⟩
    obtain ⟨H4, e4, s4, k4⟩ := newH hr' (.lst (zs ++ [V.ref te]))
    rw [e4]
    have s24 := (s2.trans s3).trans s4
    refine q r H4 (s1.trans s24) ⟨_, k4, fun p hp1 hp2 => ?_⟩
    have hE : Each (OptIn H4) ((List.range A0.length).map (scO A0 G)) zs := hzs.mono fun o x => OptIn.tp (SameTp s24)
    by_cases hp0 : 0 ≤ p
    · obtain ⟨o, x, ho, hat, hox⟩ := (hE.snoc (a := []) (x := V.ref te) ⟨te, rfl, (s3.trans s4) _ _ k2⟩).atI hp0 (by rw [List.length_append, List.length_map, List.length_range]; show p < ((A0.length + 1 : Nat) : Int); omega)
      refine ⟨x, hat, ?_⟩
      rw [List.getElem?_append_left (by rw [List.length_map, List.length_range]; omega), List.getElem?_map, List.getElem?_range (by omega)] at ho
      have : scO A0 G p.toNat = o := by simpa using ho
      unfold scF
      rw [if_pos hp0, this]
      exact hox
    · have : p = -1 := by omega
      subst this
      exact ⟨_, at_last, te, rfl, (s3.trans s4) _ _ k2⟩
/-! ### least_bad_row -/
def DueIn (H : Hp) : Option Ent → V → Prop
  | none, u => u = .non
  | some e, u => ∃ p, u = .ref p ∧ H p = some (.tup (e.2.tail.map V.int))
def spBad : Sp := fun vs H Q _ => ∃ (v : V) (A : Ar) (kp g : Addr) (Kp G : List Int) (st : Int), vs = [v, .ref kp, .ref g, .int st] ∧ ArIn H A v ∧ ArG A ∧ H kp = some (.tup (Kp.map V.int)) ∧ H g = some (.tup (G.map V.int)) ∧ StG A G ∧ 0 ≤ st ∧ st < A.length ∧
  ∀ R u H', Same H H' → Ended (scF A G) st R → DueIn H' (ansE (lostB A G Kp) R) u → Q u H'
theorem cut_one (l : List Int) : cutV (l.map V.int) (some 1) none = l.tail.map V.int := by
  unfold cutV
  rw [HT.sIx_none, show HT.sIx (l.map V.int).length 0 (some 1) = min 1 (l.map V.int).length from HT.sIx_nat _ _ _]
  cases l with
  | nil => rfl
  | cons a r =>
    rw [show min 1 ((a :: r).map V.int).length = 1 by rw [List.length_map, List.length_cons]; omega, List.map_cons, List.drop_succ_cons, List.drop_zero, List.tail_cons]
    exact List.take_of_length_le (by rw [List.length_cons]; omega)
theorem ok_least_bad_row (T : Txt K mg) : FnOk P w K mg base CX0 2 T.aleast_bad_row T.dleast_bad_row Pleast_bad_row spBad := by
  have G_successors_by := ok_successors_by (P := P) (w := w) (base := base) T
  have G_least_rows := ok_least_rows (P := P) (w := w) (base := base) T
  refine T.Fleast_bad_row.ok scleast_bad_row (fun vs H Q E h => ?_) (fun cdv A outer s H vs Q E hr h => ?_)
  · obtain ⟨v, A, kp, g, Kp, G, st, rfl, _⟩ := h
    rfl
  obtain ⟨v, A0, kp, g, Kp, G, st, rfl, hA, hG, ek, eg, hS, st0, st1, q⟩ := h
  have qN : ∀ R H', Same H H' → Ended (scF A0 G) st R → ansE (lostB A0 G Kp) R = none → Q .non H' := fun R H' s hE e => q R _ H' s hE (by rw [e]; exact rfl)
  have qS : ∀ R e p H', Same H H' → Ended (scF A0 G) st R → ansE (lostB A0 G Kp) R = some e → H' p = some (.tup (e.2.tail.map V.int)) → Q (.ref p) H' := fun R e p H' s hE h k => q R _ H' s hE (by rw [h]; exact ⟨p, rfl, k⟩)
  refine ⟨_, (pss_cons (ps_set (i := 4) scleast_bad_row.nd rfl (Or.inl rfl) (pe_call G_successors_by (hr.mono (by omega)) (by rfl) T.m_successors_by T.F_successors_by.kp T.b_successors_by .nil pass0 (pa_cons (pv 0) (pa_cons (pv 2) pa_nil))))
    (pss_cons (ps_set (i := 5) scleast_bad_row.nd rfl (Or.inl rfl) (pe_call G_least_rows (hr.mono (by omega)) (by rfl) T.m_least_rows T.F_least_rows.kp T.b_least_rows .nil pass0 (pa_cons (pv 4) (pa_cons (pe_tup (pa_cons (pv 3) pa_nil)) pa_nil))))
    (pss_cons (ps_lock (ps_for PassesOwn.never rfl (pi_keys (pv 5)) (pg_name (i := 6) scleast_bad_row.nd rfl (Or.inl rfl))
    (pss_one (ps_if (PW.pt (pw_or (pt_cmpR (op_eqD hr.units) (pe_ix ix_list (pv 4) (pv 6) (fun _ _ => rfl)) (pe_tup pa_nil) (nomark _)) (pw_or1 (pt_cmpR op_notIn_seq (pv 6) (pv 1) (by rfl)))))
    (pss_one (ps_ret (pe_slice sl_tupA (pe_dget (hu_of hr) (pv 5) (pv 6) (fun _ _ => rfl)) (po_some pe_int) po_none)))
    pss_nil))))
    (pss_one (ps_ret pe_non))))), ?_⟩
  refine ⟨_, rfl, _, rfl, v, A0, g, G, rfl, hA, hG, eg, hS, fun a H1 s1 hSA => ?_⟩
  refine ⟨_, rfl, _, rfl, Nat.le_of_ble_eq_true rfl, fun b hb => ?_⟩
  obtain ⟨H2, e2, s2, k2⟩ := newH hb (.tup [V.int st])
  rw [e2]
  have hSA2 : SucA H2 a (scF A0 G) A0.length := by
    obtain ⟨xs, ex, hx⟩ := hSA
    refine ⟨xs, s2 _ _ ex, fun p h1 h2 => ?_⟩
    obtain ⟨x, hat, hox⟩ := hx p h1 h2
    exact ⟨x, hat, hox.tp (SameTp s2)⟩
  refine ⟨a, b, scF A0 G, A0.length, st, rfl, hSA2, sc_good hG, k2, by omega, st1, fun D kvs R H3 s3 hDn e3 hR gR hE => ?_⟩
  have s13 := (s1.trans s2).trans s3
  obtain ⟨xs, ex, hx⟩ := hSA2
  have hDa : ∀ {x : Addr} {l : List V}, H3 x = some (.lst l) → x ≠ D := fun h z => by
    rw [z, e3] at h
    cases h
  have hDt : ∀ {x : Addr} {l : List V}, H3 x = some (.tup l) → x ≠ D := fun h z => by
    rw [z, e3] at h
    cases h
  have hlk := hR.len
  have hDold : ∀ {o : HO}, H D = some o → False := fun {o} h => by
    have h1 := (s1.trans s2) _ _ h
    rw [hDn] at h1
    cases h1
  refine ⟨D, .dK kvs, e3, trivial, fun od => ?_⟩
  refine ⟨_, rfl, D, od, rfl, .inl ⟨kvs, upd_same, ?_⟩⟩
  have fin : ∀ {H' : Hp}, (∀ b o, b ≠ D → H3 b = some o → H' b = some o) → Same H (upd H' D (.dK kvs)) := fun {H'} hk b o e => by
    have ne : b ≠ D := fun z => hDold (z ▸ e)
    rw [upd_ne ne]
    exact hk b o ne (s13 _ _ e)
  refine for_it walk_keys (fun (i : Nat) (σ : L2.St) (H' : Hp) => ∃ y6 : Option V, σ = [some v, some (.ref kp), some (.ref g), some (.int st), some (.ref a), some (.ref D), y6] ∧ H' D = some (.frz od (.dK kvs)) ∧ (∀ b o, b ≠ D → H3 b = some o → H' b = some o) ∧ ∀ (k : Nat) e, k < i → R[k]? = some e → lostB A0 G Kp e.1 = false) ?_ ?_ ?_ ?_
  · exact ⟨_, rfl, upd_same, fun b o ne e => by rw [upd_ne ne]; exact e, fun k e hk => absurd hk (Nat.not_lt_zero k)⟩
  · rintro i σ H' _ ⟨y6, rfl, e', _⟩
    exact e'
  · rintro i x σ H4 H5 hi ⟨y6, rfl, e4, hk4, hu⟩ ⟨rfl, k, u, hku, rfl⟩
    obtain ⟨e, he, rfl, ou⟩ := hR.get i k u hku
    have hin := gR.inn e (List.mem_of_getElem? he)
    obtain ⟨x, hat, t, rfl, et⟩ := hx e.1 hin.1 hin.2
    have exa := s3 _ _ ex
    have ex4 := hk4 _ _ (hDa exa) exa
    have et3 := s3 _ _ et
    have et4 := hk4 _ _ (hDt et3) et3
    have ek3 := s13 _ _ ek
    have ek4 := hk4 _ _ (hDt ek3) ek3
    -- what is returned
    have ret : ∀ H6, (∀ b o, b ≠ D → H3 b = some o → H6 b = some o) → H6 D = some (.frz od (.dK kvs)) → lostB A0 G Kp e.1 = true → rSlA K u (some 1) none H6 fun v H' => H' D = some (.frz od (.dK kvs)) ∧ Q v (upd H' D (.dK kvs)) := fun H6 hk6 e6 hl => by
      obtain ⟨tu, rfl, eu⟩ := ou
      refine slA_of (hk6 _ _ (hDt eu) eu) fun p H7 s7 k7 => ⟨s7 _ _ e6, ?_⟩
      rw [cut_one] at k7
      have hpD : p ≠ D := fun z => by
        rw [z, s7 _ _ e6] at k7
        cases k7
      refine qS R e p _ (fin fun b o ne h => s7 _ _ (hk6 b o ne h)) hE (ans_at hu he hl) ?_
      rw [upd_ne hpD]
      exact k7
    have dg : ∀ {H6 : Hp}, H6 D = some (.frz od (.dK kvs)) → DGet H6 D (kV (Sum.inl e.1)) (some u) := fun {H6} e6 => by
      obtain ⟨u', hu', _⟩ := hR.yes gR.nd e (List.mem_of_getElem? he)
      have hnd : u' = u := by
        have h1 : R[i]? = some e := he
        exact rows_one hR gR.nd hku hu'
      rw [hnd] at hu'
      exact .inl ⟨kvs, Sum.inl e.1, .inr ⟨_, e6⟩, rfl, hu'.symm⟩
    refine ⟨_, rfl, _, rfl, a, xs, e.1, _, rfl, rfl, sqd ex4, hat, Nat.zero_le _, fun te hte => ?_⟩
    obtain ⟨H6, e6, s6, k6⟩ := newH hte (.tup [])
    rw [e6]
    have hk6 : ∀ b o, b ≠ D → H3 b = some o → H6 b = some o := fun b o ne h => s6 _ _ (hk4 b o ne h)
    refine ⟨.tuple ((scF A0 G e.1).map PyData.int), .tuple [], .tup (sqt (s6 _ _ et4)) (dp_ints _), .tup (sqt k6) .nil, shaped_tup _, rfl, _, rfl, ?_⟩
    have cs : scF A0 G e.1 = [] ∨ scF A0 G e.1 ≠ [] := Classical.em _
    rcases cs with hs | hs
    · have hl : lostB A0 G Kp e.1 = true := by unfold lostB; rw [hs]; rfl
      rw [hs]
      refine ifT rfl ?_
      refine ⟨_, rfl, _, rfl, D, _, rfl, dg (s6 _ _ e4), 1, rfl, ?_⟩
      unfold tNoPart
      exact ret H6 hk6 (s6 _ _ e4) hl
    · refine ifF (by
        cases h : scF A0 G e.1 with
        | nil => exact absurd h hs
        | cons c r => rfl) ?_
      have hse : (scF A0 G e.1).isEmpty = false := by
        cases h : scF A0 G e.1 with
        | nil => exact absurd h hs
        | cons c r => rfl
      refine ⟨_, rfl, _, rfl, kp, _, rfl, .inr (sqt (s6 _ _ ek4)), rfl, flat_ints' Kp, _, rfl, ?_⟩
      by_cases hm : e.1 ∈ Kp
      · refine ifF (by rw [show kV (Sum.inl e.1) = V.int e.1 from rfl, notIn_int, decide_eq_true hm] <;> rfl) ?_
        refine ⟨_, rfl, s6 _ _ e4, hk6, fun k q hk hq => ?_⟩
        rcases Nat.lt_or_ge k i with hl | hl
        · exact hu k q hl hq
        · have : k = i := by omega
          subst this
          rw [he] at hq
          cases hq
          unfold lostB
          rw [hse, decide_eq_true hm]
          rfl
      · refine ifT (by rw [show kV (Sum.inl e.1) = V.int e.1 from rfl, notIn_int, decide_eq_false hm] <;> rfl) ?_
        have hl : lostB A0 G Kp e.1 = true := by unfold lostB; rw [decide_eq_false hm, Bool.not_false, Bool.or_true]
        refine ⟨_, rfl, _, rfl, D, _, rfl, dg (s6 _ _ e4), 1, rfl, ?_⟩
        unfold tNoPart
        exact ret H6 hk6 (s6 _ _ e4) hl
  · rintro σ H4 ⟨y6, rfl, e4, hk4, hu⟩
    refine ⟨e4, qN R _ (fin hk4) hE (ans_no fun k q hq => hu k q ?_ hq)⟩
    rw [hlk]
    exact (List.getElem?_eq_some_iff.mp hq).1
end
end NL

namespace NL
open PySem PySem.Spec PyProof.Rows L2
theorem getD_at {os : Pos'} {g : Int} {o : Opt} (h : os[g.toNat]? = some o) : (os[g.toNat]?).getD [] = o := by rw [h]; rfl
theorem sc_at {A : Ar} {G : List Int} {p g : Int} {os : Pos'} {o : Opt} (hp : 0 ≤ p) (h1 : A[p.toNat]? = some os) (h2 : G[p.toNat]? = some g) (hg : g ≠ -1) (h3 : os[g.toNat]? = some o) : scF A G p = o := by
  unfold scF scO
  rw [if_pos hp, h1, h2]
  simp [hg, h3]
section
variable {P : Program} {w : World} {K : PySem.W.Frag} {mg : Str → Option Value} {base : Heap}
/-! ### _law_some -/
def spSome : Sp := fun vs H Q _ => ∃ (d : Addr) (v : V) (A : Ar) (sh : Int), vs = [.ref d, v, .int sh] ∧ Dr H d ∧ ArIn H A v ∧ A.length ≤ 46 ∧ ∀ (p : Addr) (o : List Int) (H' : Hp), Go d H H' → H' p = some (.tup (o.map V.int)) → Q (.ref p) H'
theorem ok_law_some (T : Txt K mg) : FnOk P w K mg base CX0 2 T.a_law_some T.d_law_some P_law_some spSome := by
  have G_law_take := ok_law_take (P := P) (w := w) (base := base) T
  refine T.F_law_some.ok sc_law_some (fun vs H Q E h => ?_) (fun cdv A outer s H vs Q E hr h => ?_)
  · obtain ⟨d, v, A, sh, rfl, _⟩ := h
    rfl
  obtain ⟨d, v, A0, sh, rfl, hD, ⟨b0, xs, rfl, e0, hxs⟩, h16, q⟩ := h
  have hxl := hxs.1
  refine ⟨_, (pss_cons (ps_if (pt_cmpR op_gt (pe_callB call_len_seq (by rfl) T.z_len PySem.boot_len (pa_cons (pv 1) pa_nil)) pe_int (nomark _))
    (pss_cons (ps_set (i := 3) sc_law_some.nd rfl (Or.inr rfl) (pe_op op_add pe_int (pe_call G_law_take (hr.mono (by omega)) (by rfl) T.m_law_take T.F_law_take.kp T.b_law_take .nil pass0 (pa_cons (pv 0) (pa_cons pe_int pa_nil)))))
    (pss_cons (ps_set (i := 4) sc_law_some.nd rfl (Or.inr rfl) (pe_call G_law_take (hr.mono (by omega)) (by rfl) T.m_law_take T.F_law_take.kp T.b_law_take .nil pass0 (pa_cons (pv 0) (pa_cons pe_int pa_nil))))
    (pss_one (ps_ret (pe_callTy call_tuple_of (by rfl) T.z_tuple (by decide +kernel) (pa_cons (pe_lc (own := [("k", 5)]) (g := (gName 5)) (tt := _) rfl sc_law_some.nd (pi_range1 (by rfl) T.z_range (pa_cons (pe_callB call_len_seq (by rfl) T.z_len PySem.boot_len (pa_cons (pv 1) pa_nil)) pa_nil)) (blkOk_by (N := N_law_some) (sc := defScope s_law_some) (by decide +kernel)) (fun _ _ _ _ _ => (pg_name (i := 5) sc_law_some.nd rfl (Or.inl rfl))) (fun _ _ _ _ _ => (pts_one (pt_cmpR op_eq (pe_cmpR op_gt (pe_op op_mod (pe_callTy call_int1 (by rfl) T.z_int (by decide +kernel) (pa_cons (pe_op op_add (pv 5) (pv 4)) pa_nil)) (pv 3)) pe_int (nomark _)) (pe_cmpR op_gt (pv 2) pe_int (nomark _)) (nomark _)))) (fun _ _ _ _ _ => (pv 5))) pa_nil))))))
    pss_nil)
    (pss_cons (ps_if (PW.pt (pw_and (pt_cmpR op_eq (pe_call G_law_take (hr.mono (by omega)) (by rfl) T.m_law_take T.F_law_take.kp T.b_law_take .nil pass0 (pa_cons (pv 0) (pa_cons pe_int pa_nil))) pe_int (nomark _)) (pw_and1 (pt_cmpR op_gt (pv 2) pe_int (nomark _)))))
    (pss_one (ps_ret (pe_tupRg rfl (by rfl) T.z_tuple (prg_1 (by rfl) T.z_range (pe_callB call_len_seq (by rfl) T.z_len PySem.boot_len (pa_cons (pv 1) pa_nil))))))
    pss_nil)
    (pss_one (ps_ret (pe_callTy call_tuple_of (by rfl) T.z_tuple (by decide +kernel) (pa_cons (pe_lc (own := [("k", 5)]) (g := (gName 5)) (tt := _) rfl sc_law_some.nd (pi_range1 (by rfl) T.z_range (pa_cons (pe_callB call_len_seq (by rfl) T.z_len PySem.boot_len (pa_cons (pv 1) pa_nil)) pa_nil)) (blkOk_by (N := N_law_some) (sc := defScope s_law_some) (by decide +kernel)) (fun _ _ _ _ _ => (pg_name (i := 5) sc_law_some.nd rfl (Or.inl rfl))) (fun _ _ _ _ _ => (pts_one (pt_cmpR op_lt (pe_call G_law_take (hr.mono (by omega)) (by rfl) T.m_law_take T.F_law_take.kp T.b_law_take .nil pass0 (pa_cons (pv 0) (pa_cons pe_int pa_nil))) (pv 2) (nomark _)))) (fun _ _ _ _ _ => (pv 5))) pa_nil)))))), ?_⟩
  refine ⟨_, rfl, b0, _, rfl, .inr (sqt e0), _, _, rfl, rfl, _, rfl, ?_⟩
  refine ite2 (fun z16 => ?_) (fun z16 => ?_)
  · refine ⟨_, rfl, d, 9, rfl, hD, by decide, fun u1 H1 g1 a1 b1 => ⟨_, _, rfl, rfl, ?_⟩⟩
    dsimp only
    generalize hst : (2 : Int) + u1 = stp
    refine ⟨_, rfl, d, 4, rfl, g1.dr, by decide, fun u2 H2 g2 a2 b2 => ?_⟩
    have g12 := g1.trans g2
    have e2 := g12.tp hD _ _ e0
    refine ⟨_, rfl, b0, _, rfl, .inr (sqt e2), _, rfl, by omega, by omega, fun D hD' => ?_⟩
    have s1 := same_new hD' (.lst [])
    refine lc_range (lo := 0) (n := ((xs.length : Nat) : Int).toNat) (fun (i : Nat) (H' : Hp) => ∃ o : List Int, Go d H H' ∧ H' D = some (.lst (o.map V.int)) ∧ o.length ≤ i) ?_ ?_ ?_
    · exact ⟨[], g12.trans (.same g2.dr s1), upd_same, Nat.le_refl 0⟩
    · rintro i H' hi ⟨o, g3, e3, hlen⟩
      refine ⟨rfl, ?_⟩
      refine ⟨_, rfl, _, rfl, _, _, rfl, rfl, .inl ⟨_, rfl, _, rfl, _, _, rfl, rfl, (by show (0 : Int) < stp; omega), _, _, rfl, rfl, _, rfl, _, _, rfl, rfl, rfl, _, rfl, ?_⟩⟩
      refine ite2 (fun z => ?_) (fun z => ⟨o, g3, e3, by omega⟩)
      exact ⟨_, rfl, _, e3, big' (by rw [List.length_map]; omega), o ++ [0 + (i : Int)], g3.put2 (g12.free hD') (new_ne g2.dr hD'), by rw [upd_same, List.map_append]; rfl, by rw [List.length_append]; exact Nat.add_le_add_right hlen 1⟩
    · rintro H3 ⟨o, g3, e3, hlen⟩
      refine ⟨D, _, rfl, .inl ⟨sqd e3, fun t ht => ?_⟩⟩
      exact q t o _ (g3.trans (Go.new g3.dr ht)) upd_same
  refine ⟨_, rfl, d, 6, rfl, hD, by decide, fun u H1 g1 _ _ => ⟨rfl, _, rfl, ?_⟩⟩
  have e1 := g1.tp hD _ _ e0
  refine ite2 (fun z => ⟨_, rfl, _, _, rfl, rfl, _, rfl, ite2 (fun z2 => ?_) (fun z2 => ?_)⟩) (fun z => ?_)
  · refine ⟨_, rfl, b0, _, rfl, .inr (sqt e1), _, rfl, ⟨by omega, by omega, by omega, by omega, by omega⟩, fun q1 hq1 => ?_⟩
    rw [rg_ints]
    exact q q1 _ _ (g1.trans (Go.new g1.dr hq1)) upd_same
  all_goals
    refine ⟨_, rfl, b0, _, rfl, .inr (sqt e1), _, rfl, by omega, by omega, fun D hD' => ?_⟩
    have nDd := new_ne g1.dr hD'
    have s1 := same_new hD' (.lst [])
    refine lc_range (lo := 0) (n := ((xs.length : Nat) : Int).toNat) (fun (i : Nat) (H' : Hp) => ∃ o : List Int, Go d H H' ∧ H' D = some (.lst (o.map V.int)) ∧ o.length ≤ i) ?_ ?_ ?_
    · exact ⟨[], g1.trans (.same g1.dr s1), upd_same, Nat.le_refl 0⟩
    · rintro i H' hi ⟨o, g2, e2, hlen⟩
      refine ⟨rfl, ?_⟩
      refine ⟨_, rfl, d, 8, rfl, g2.dr, by decide, fun u H2 g3 _ _ => ⟨_, rfl, _, _, rfl, rfl, _, rfl, ?_⟩⟩
      have e3 := g3.fr D _ nDd e2
      refine ite2 (fun z => ?_) (fun z => ⟨o, g2.trans g3, e3, by omega⟩)
      exact ⟨_, rfl, _, e3, big' (by rw [List.length_map]; omega), o ++ [0 + (i : Int)], (g2.trans g3).put2 (g1.free hD') nDd, by rw [upd_same, List.map_append]; rfl, by rw [List.length_append]; exact Nat.add_le_add_right hlen 1⟩
    · rintro H2 ⟨o, g2, e2, hlen⟩
      refine ⟨D, _, rfl, .inl ⟨sqd e2, fun t ht => ?_⟩⟩
      exact q t o _ (g2.trans (Go.new g2.dr ht)) upd_same
/-! ### _law_strategy -/
def spStrat : Sp := fun vs H Q _ => ∃ (d : Addr) (v : V) (A : Ar), vs = [.ref d, v] ∧ Dr H d ∧ ArIn H A v ∧ A.length ≤ 46 ∧ ∀ (p : Addr) (G : List Int) (H' : Hp), Go d H H' → H' p = some (.tup (G.map V.int)) → StG A G → Q (.ref p) H'
theorem ok_law_strategy (T : Txt K mg) : FnOk P w K mg base CX0 2 T.a_law_strategy T.d_law_strategy P_law_strategy spStrat := by
  have G_law_take := ok_law_take (P := P) (w := w) (base := base) T
  refine T.F_law_strategy.ok sc_law_strategy (fun vs H Q E h => ?_) (fun cdv A outer s H vs Q E hr h => ?_)
  · obtain ⟨d, v, A, rfl, _⟩ := h
    rfl
  obtain ⟨d, v, A0, rfl, hD, ⟨b0, xs, rfl, e0, hxs⟩, h46, q⟩ := h
  have hxl := hxs.1
  refine ⟨_, (pss_cons (ps_set (i := 2) sc_law_strategy.nd rfl (Or.inl rfl) (pe_call G_law_take (hr.mono (by omega)) (by rfl) T.m_law_take T.F_law_take.kp T.b_law_take .nil pass0 (pa_cons (pv 0) (pa_cons pe_int pa_nil))))
    (pss_cons (ps_set (i := 3) sc_law_strategy.nd rfl (Or.inl rfl) (pe_op op_add pe_int (pe_call G_law_take (hr.mono (by omega)) (by rfl) T.m_law_take T.F_law_take.kp T.b_law_take .nil pass0 (pa_cons (pv 0) (pa_cons pe_int pa_nil)))))
    (pss_cons (ps_set (i := 4) sc_law_strategy.nd rfl (Or.inl rfl) (pe_ix ix_list (pe_lst (pa_cons pe_int (pa_cons pe_int (pa_cons pe_int pa_nil)))) (pe_call G_law_take (hr.mono (by omega)) (by rfl) T.m_law_take T.F_law_take.kp T.b_law_take .nil pass0 (pa_cons (pv 0) (pa_cons pe_int pa_nil))) (fun _ _ => rfl)))
    (pss_cons (ps_set (i := 5) sc_law_strategy.nd rfl (Or.inl rfl) (pe_call G_law_take (hr.mono (by omega)) (by rfl) T.m_law_take T.F_law_take.kp T.b_law_take .nil pass0 (pa_cons (pv 0) (pa_cons pe_int pa_nil))))
    (pss_cons (ps_set (i := 6) sc_law_strategy.nd rfl (Or.inl rfl) (pe_lst pa_nil))
    (pss_cons (ps_for  PassesOwn.never rfl (pi_range1 (by rfl) T.z_range (pa_cons (pe_callB call_len_seq (by rfl) T.z_len PySem.boot_len (pa_cons (pv 1) pa_nil)) pa_nil)) (pg_name (i := 7) sc_law_strategy.nd rfl (Or.inl rfl))
    (pss_cons (ps_set (i := 8) sc_law_strategy.nd rfl (Or.inl rfl) (pe_op op_mod (pe_callTy call_int1 (by rfl) T.z_int (by decide +kernel) (pa_cons (pe_op op_add (pe_op op_add (pv 2) (pe_op op_mul (pv 3) (pv 7))) (pe_op op_mul (pv 7) (pv 7))) pa_nil)) pe_int))
    (C8.pss_cut (ps_if (pt_cmpR op_eq (pv 5) pe_int (nomark _))
    (pss_one (ps_set (i := 8) sc_law_strategy.nd rfl (Or.inl rfl) pe_int))
    pss_nil)
    (pss_one (ps_if (PW.pt (pw_or (pt_cmpR op_eq (pe_callB call_len_seq (by rfl) T.z_len PySem.boot_len (pa_cons (pe_ix ix_tup (pv 1) (pv 7) (fun _ _ => rfl)) pa_nil)) pe_int (nomark _)) (pw_or1 (pt_cmpR op_eq (pe_op op_mod (pe_callTy call_int1 (by rfl) T.z_int (by decide +kernel) (pa_cons (pv 8) pa_nil)) (pv 4)) pe_int (nomark _)))))
    (pss_one (ps_expr (pe_bm PySem.F.plainAttrs_list PySem.F.slot_list_append PySem.F.type_list_append mt_append (pv 6) (pa_cons (pe_un un_neg pe_int) pa_nil))))
    (pss_one (ps_expr (pe_bm PySem.F.plainAttrs_list PySem.F.slot_list_append PySem.F.type_list_append mt_append (pv 6) (pa_cons (pe_op op_mod (pe_op op_fdiv (pv 8) pe_int) (pe_callB call_len_seq (by rfl) T.z_len PySem.boot_len (pa_cons (pe_ix ix_tup (pv 1) (pv 7) (fun _ _ => rfl)) pa_nil))) pa_nil)))))))))
    (pss_one (ps_ret (pe_callTy call_tuple_of (by rfl) T.z_tuple (by decide +kernel) (pa_cons (pv 6) pa_nil)))))))))), ?_⟩
  refine ⟨_, rfl, d, 900, rfl, hD, by decide, fun u1 H1 g1 a1 b1 => ?_⟩
  refine ⟨_, rfl, d, 900, rfl, g1.dr, by decide, fun u2 H2 g2 a2 b2 => ⟨_, _, rfl, rfl, ?_⟩⟩
  dsimp only
  generalize hst : (1 : Int) + u2 = stp
  refine ⟨Nat.le_of_ble_eq_true rfl, fun l hl => ?_⟩
  have g2l := g2.trans (Go.new (o := .lst [.int 3, .int 9, .int 97]) g2.dr hl)
  refine ⟨_, rfl, d, 3, rfl, g2l.dr, by decide, fun u3 H3 g3 a3 b3 => ?_⟩
  have el : H3 l = some (.lst ([3, 9, 97].map V.int)) := g3.fr l _ (new_ne g2.dr hl) upd_same
  obtain ⟨rare, hra, hrm⟩ := atI_map (f := V.int) (xs := ([3, 9, 97] : List Int)) a3 b3
  have hr3 : 0 < rare := by
    simp only [List.mem_cons, List.not_mem_nil, or_false] at hrm
    omega
  refine ⟨l, _, _, _, rfl, rfl, sqd el, hra, ?_⟩
  refine ⟨_, rfl, d, 6, rfl, g3.dr, by decide, fun plain H4 g4 a4 b4 => ?_⟩
  have g14 := (g1.trans g2l).trans (g3.trans g4)
  refine ⟨Nat.zero_le _, fun p hp => ?_⟩
  have hpd := new_ne g4.dr hp
  have hp0 := g14.free hp
  obtain ⟨H5, e5, s5, k5⟩ := newH hp (.lst [])
  rw [e5]
  have g15 := g14.trans (.same g4.dr s5)
  have e05 := g15.tp hD _ _ e0
  refine ⟨_, rfl, b0, _, rfl, .inr (sqt e05), _, rfl, by omega, by omega, ?_⟩
  refine for_range (lo := 0) (n := ((xs.length : Nat) : Int).toNat) (fun (j : Nat) (σ : L2.St) (H' : Hp) => ∃ (G : List Int) (y7 y8 : Option V), σ = [some (.ref d), some (.ref b0), some (.int u1), some (.int stp), some (.int rare), some (.int plain), some (.ref p), y7, y8] ∧ Go d H H' ∧ H' p = some (.lst (G.map V.int)) ∧ G.length = j ∧ ∀ (k : Nat) (g : Int) (os : Pos'), G[k]? = some g → A0[k]? = some os → g = -1 ∨ (0 ≤ g ∧ g < os.length)) ?_ ?_ ?_
  · exact ⟨[], none, none, rfl, g15, k5, rfl, fun k g os h => by simp at h⟩
  · rintro j σ H6 hj ⟨G, y7, y8, rfl, g6, e6, hGl, hG⟩
    have hjA : j < A0.length := by omega
    have hos := List.getElem?_eq_getElem hjA
    generalize A0[j] = os at hos
    have e06 := g6.tp hD _ _ e0
    obtain ⟨os', x, hos', hat, b1, ys, rfl, e1', hys⟩ := hxs.atI (i := 0 + (j : Int)) (by omega) (by omega)
    have : os' = os := by
      rw [show (0 + (j : Int)).toNat = j by omega, hos] at hos'
      exact (Option.some.inj hos').symm
    subst this
    have e16 := g6.tp hD _ _ e1'
    have hyl := hys.1
    generalize hk : (0 : Int) + (j : Int) = k at hat ⊢
    have hk0 : 0 ≤ k ∧ k < 46 := by omega
    refine ⟨_, rfl, _, rfl, _, rfl, _, _, rfl, rfl, .inl ⟨by omega, by omega⟩, _, _, rfl, rfl, _, rfl, _, rfl, _, _, rfl, rfl, .inl ⟨by omega, by omega⟩, _, _, rfl, rfl, .inl ⟨_, rfl, _, _, rfl, rfl, (by show (0 : Int) < 997; decide), ?_⟩⟩
    dsimp only
    generalize hnu : (u1 + stp * k + k * k) % 997 = nu
    have nu0 : 0 ≤ nu := by rw [← hnu]; exact Int.emod_nonneg _ (by omega)
    let I : L2.St → Hp → Prop := fun σ H' => ∃ z : Int, σ = [some (.ref d), some (.ref b0), some (.int u1), some (.int stp), some (.int rare), some (.int plain), some (.ref p), some (.int k), some (.int z)] ∧ H' = H6 ∧ 0 ≤ z
    refine ⟨I, ?_, ?_⟩
    · refine ⟨_, rfl, rfl, _, rfl, ?_⟩
      exact ite2 (fun z => ⟨0, rfl, rfl, Int.le_refl 0⟩) (fun z => ⟨nu, rfl, rfl, nu0⟩)
    rintro σ H7 ⟨z, rfl, rfl, hz0⟩
    have add : ∀ c : Int, (c = -1 ∨ (0 ≤ c ∧ c < os'.length)) → ∃ (G' : List Int) (y7 y8 : Option V), [some (V.ref d), some (.ref b0), some (.int u1), some (.int stp), some (.int rare), some (.int plain), some (.ref p), some (.int k), some (.int z)] = [some (.ref d), some (.ref b0), some (.int u1), some (.int stp), some (.int rare), some (.int plain), some (.ref p), y7, y8] ∧ Go d H (upd H7 p (.lst (G.map V.int ++ [V.int c]))) ∧ (upd H7 p (.lst (G.map V.int ++ [V.int c]))) p = some (.lst (G'.map V.int)) ∧ G'.length = j + 1 ∧ ∀ (k : Nat) (g : Int) (os : Pos'), G'[k]? = some g → A0[k]? = some os → g = -1 ∨ (0 ≤ g ∧ g < os.length) := fun c hc => by
      refine ⟨G ++ [c], _, _, rfl, g6.put2 hp0 hpd, by rw [upd_same, ints_snoc2], by rw [List.length_append, hGl]; rfl, fun k g os h1 h2 => ?_⟩
      rcases Nat.lt_or_ge k j with hl | hl
      · rw [List.getElem?_append_left (by omega)] at h1
        exact hG k g os h1 h2
      · have hkj : k = j := by
          have := (List.getElem?_eq_some_iff.mp h1).1
          rw [List.length_append, hGl] at this
          have h3 : ([c] : List Int).length = 1 := rfl
          omega
        subst hkj
        rw [List.getElem?_append_right (by omega), hGl, Nat.sub_self] at h1
        have h4 : c = g := by simpa using h1
        rw [hos] at h2
        cases h2
        rw [← h4]
        exact hc
    have glen : (G.map V.int).length ≤ 1000000 := by rw [List.length_map]; omega
    have neg : ∃ (G' : List Int) (y7 y8 : Option V), [some (V.ref d), some (.ref b0), some (.int u1), some (.int stp), some (.int rare), some (.int plain), some (.ref p), some (.int k), some (.int z)] = [some (.ref d), some (.ref b0), some (.int u1), some (.int stp), some (.int rare), some (.int plain), some (.ref p), y7, y8] ∧ Go d H (upd H7 p (.lst (G.map V.int ++ [V.int (-1)]))) ∧ (upd H7 p (.lst (G.map V.int ++ [V.int (-1)]))) p = some (.lst (G'.map V.int)) ∧ G'.length = j + 1 ∧ ∀ (k : Nat) (g : Int) (os : Pos'), G'[k]? = some g → A0[k]? = some os → g = -1 ∨ (0 ≤ g ∧ g < os.length) := add (-1) (.inl rfl)
    refine ⟨_, rfl, _, rfl, b0, _, _, _, rfl, rfl, sqt e06, hat, b1, _, rfl, .inr (sqt e16), rfl, _, rfl, ?_⟩
    refine ite2 (fun z1 => ⟨_, rfl, .inl ⟨rfl, _, sqd e6⟩, _, rfl, p, _, _, rfl, rfl, e6, big' glen, neg⟩) (fun z1 => ?_)
    have hne := int_ne z1
    refine ⟨_, rfl, .inl ⟨_, rfl, _, rfl, _, _, rfl, rfl, hr3, rfl, _, rfl, ?_⟩⟩
    refine ite2 (fun z2 => ⟨_, rfl, .inl ⟨rfl, _, sqd e6⟩, _, rfl, p, _, _, rfl, rfl, e6, big' glen, neg⟩) (fun z2 => ?_)
    have hyp : (0 : Int) < (ys.length : Int) := by omega
    have cdiv3 : CDiv z 3 := by
      unfold CDiv
      first | decide | exact ⟨by decide, by decide⟩ | omega
    refine ⟨_, rfl, .inl ⟨rfl, _, sqd e6⟩, _, rfl, _, _, rfl, rfl, cdiv3, _, rfl, _, rfl, b0, _, _, _, rfl, rfl, sqt e06, hat, b1, _, rfl, .inr (sqt e16), _, _, rfl, rfl, hyp, p, _, _, rfl, rfl, e6, big' glen, ?_⟩
    exact add _ (.inr ⟨Int.emod_nonneg _ (by omega), by have := Int.emod_lt_of_pos (z / 3) hyp; omega⟩)
  · rintro σ H6 ⟨G, y7, y8, rfl, g6, e6, hGl, hG⟩
    refine ⟨_, rfl, p, _, rfl, .inl ⟨sqd e6, fun t ht => ?_⟩⟩
    exact q t G _ (g6.trans (Go.new g6.dr ht)) upd_same ⟨by omega, hG⟩
/-! ### _law_is_lost -/
def spLost : Sp := fun vs H Q _ => ∃ (A : Ar) (kp g : Addr) (Kp G : List Int) (at_ : Int), vs = [.ref kp, .ref g, .int at_] ∧ ArG A ∧ H kp = some (.tup (Kp.map V.int)) ∧ H g = some (.tup (G.map V.int)) ∧ StG A G ∧ -1 ≤ at_ ∧ at_ < A.length ∧ Q (.bl (lostB A G Kp at_)) H
end
end NL

namespace NL
open PySem PySem.Spec PyProof.Rows L2
/-- an unlost position's own option -/
theorem find_opt {H : Hp} {A : Ar} {G Kp : List Int} {xs : List V} {q : Int} (hA : Each (PosIn H) A xs) (hG : ArG A) (hS : StG A G) (h0 : -1 ≤ q) (h1 : q < A.length) (hl : lostB A G Kp q = false) :
    0 ≤ q ∧ ∃ b1 ys gi t, atI xs q = some (.ref b1) ∧ H b1 = some (.tup ys) ∧ atI (G.map V.int) q = some (.int gi) ∧ atI ys gi = some (.ref t) ∧ H t = some (.tup ((scF A G q).map V.int)) := by
  have hne : (scF A G q).isEmpty = false := by
    unfold lostB at hl
    cases h : (scF A G q).isEmpty with
    | false => rfl
    | true =>
      rw [h] at hl
      cases hl
  have hq : 0 ≤ q := Classical.byContradiction fun h => by
    unfold scF at hne
    rw [if_neg h] at hne
    cases hne
  refine ⟨hq, ?_⟩
  obtain ⟨os, x, hos, hat, b1, ys, rfl, e1, hys⟩ := hA.atI hq h1
  have hgl : q.toNat < G.length := by rw [hS.len]; omega
  have hg := List.getElem?_eq_getElem hgl
  generalize G[q.toNat] = gi at hg
  have hg1 : gi ≠ -1 := fun h => by
    unfold scF scO at hne
    rw [if_pos hq, hos, hg, h] at hne
    cases hne
  have hix := (hS.ix _ gi os hg hos).resolve_left hg1
  obtain ⟨o, y, ho, hato, t, rfl, et⟩ := hys.atI hix.1 hix.2
  refine ⟨b1, ys, gi, t, hat, e1, ?_, hato, ?_⟩
  · have := atI_nat (j := q.toNat) (show (G.map V.int)[q.toNat]? = some (V.int gi) by rw [List.getElem?_map, hg]; rfl)
    rw [show ((q.toNat : Nat) : Int) = q by omega] at this
    exact this
  · rw [sc_at hq hos hg hg1 ho]
    exact et
def RwIn (H : Hp) (e : List Int × Int) (v : V) : Prop := ∃ b t, v = .ref b ∧ H b = some (.tup [.ref t, .int e.2]) ∧ H t = some (.tup (e.1.map V.int))
theorem RwIn.tp {H H' : Hp} {e : List Int × Int} {v : V} (t : Tp H H') (h : RwIn H e v) : RwIn H' e v := by
  obtain ⟨b, q, e1, h1, h2⟩ := h
  exact ⟨b, q, e1, t _ _ h1, t _ _ h2⟩
def nextR (f : Int → List Int) (es : List (List Int × Int)) : List (List Int × Int) := es.flatMap fun e => (f e.2).map fun a => (e.1 ++ [a], a)
theorem nextR_len {f : Int → List Int} {c : Nat} (hf : ∀ p, (f p).length ≤ c) (es : List (List Int × Int)) : (nextR f es).length ≤ es.length * c := by
  unfold nextR
  induction es with
  | nil => exact Nat.zero_le _
  | cons e r ih =>
    rw [List.flatMap_cons, List.length_append, List.length_map, List.length_cons, Nat.add_mul, Nat.one_mul]
    have := hf e.2
    omega
section
variable {P : Program} {w : World} {K : PySem.W.Frag} {mg : Str → Option Value} {base : Heap}
/-! ### _law_end -/
def spEnd : Sp := fun vs H Q _ => ∃ (v : V) (A : Ar) (kp g rw : Addr) (Kp G r : List Int) (st z : Int), vs = [v, .ref kp, .ref g, .int st, .ref rw] ∧ ArIn H A v ∧ ArG A ∧ H kp = some (.tup (Kp.map V.int)) ∧ H g = some (.tup (G.map V.int)) ∧ StG A G ∧ H rw = some (.tup (r.map V.int)) ∧
  (∀ j, j < r.length → ∃ q a, (st :: r)[j]? = some q ∧ r[j]? = some a ∧ a ∈ scF A G q ∧ lostB A G Kp q = false ∧ -1 ≤ q ∧ q < A.length) ∧ (st :: r)[r.length]? = some z ∧ Q (.int z) H
/-! ### _law_longer -/
def spLonger : Sp := fun vs H Q _ => ∃ (v : V) (A : Ar) (g rl : Addr) (Kp G : List Int) (es : List (List Int × Int)) (xs : List V), vs = [v, .ref g, .ref rl] ∧ ArIn H A v ∧ ArG A ∧ H g = some (.tup (G.map V.int)) ∧ StG A G ∧ H rl = some (.lst xs) ∧ Each (RwIn H) es xs ∧
  (∀ e ∈ es, lostB A G Kp e.2 = false ∧ -1 ≤ e.2 ∧ e.2 < A.length ∧ e.1.length ≤ 100) ∧ es.length ≤ 1000 ∧ ∀ l ys H', Same H H' → H' l = some (.lst ys) → Each (RwIn H') (nextR (scF A G) es) ys → Q (.ref l) H'
end
end NL

namespace NL
open PySem PySem.Spec PyProof.Rows L2
/-! ### lengths of shortest lost rows -/
theorem rows_front (f : Int → List Int) : ∀ (L : Nat) (p : Int), rowsL f p (L + 1) = (f p).flatMap fun a => (rowsL f a L).map fun e => (a :: e.1, e.2)
  | 0, p => by
    show ([([], p)] : List (List Int × Int)).flatMap (fun e => (f e.2).map fun a => (e.1 ++ [a], a)) = _
    rw [List.flatMap_singleton]
    show (f p).map (fun a => ([] ++ [a], a)) = (f p).flatMap fun a => [(a :: [], a)]
    induction f p with
    | nil => rfl
    | cons a r ih => rw [List.map_cons, List.flatMap_cons, ih]; rfl
  | L + 1, p => by
    show (rowsL f p (L + 1)).flatMap (fun e => (f e.2).map fun a => (e.1 ++ [a], a)) = _
    rw [rows_front f L p, List.flatMap_assoc]
    congr 1
    funext a
    rw [List.flatMap_map]
    show _ = ((rowsL f a L).flatMap fun e => (f e.2).map fun b => (e.1 ++ [b], b)).map _
    rw [List.map_flatMap]
    congr 1
    funext e
    rw [List.map_map]
    rfl
def dst (f : Int → List Int) (lost : Int → Bool) : Nat → Int → Int
  | 0, p => if lost p = true then 0 else -1
  | r + 1, p => if 0 ≤ dst f lost r p then dst f lost r p else if (f p).any (fun a => decide (0 ≤ dst f lost r a)) = true then ((r + 1 : Nat) : Int) else -1
theorem dst_s (f : Int → List Int) (lost : Int → Bool) (r : Nat) (p : Int) : dst f lost (r + 1) p = if 0 ≤ dst f lost r p then dst f lost r p else if (f p).any (fun a => decide (0 ≤ dst f lost r a)) = true then ((r + 1 : Nat) : Int) else -1 := rfl
theorem dst_ge (f : Int → List Int) (lost : Int → Bool) : ∀ r p, dst f lost r p = -1 ∨ (0 ≤ dst f lost r p ∧ dst f lost r p ≤ r)
  | 0, p => by
    unfold dst
    split
    · exact .inr ⟨Int.le_refl 0, Int.le_refl 0⟩
    · exact .inl rfl
  | r + 1, p => by
    have h := dst_ge f lost r p
    unfold dst
    split
    · exact .inr ⟨by assumption, by omega⟩
    · split
      · exact .inr ⟨by omega, by omega⟩
      · exact .inl rfl
theorem un_front {f : Int → List Int} {lost : Int → Bool} {p : Int} {L : Nat} : unlost lost f p (L + 1) ↔ ∀ a ∈ f p, unlost lost f a L := by
  unfold unlost
  rw [rows_front]
  constructor
  · intro h a ha e he
    exact h (a :: e.1, e.2) (List.mem_flatMap.mpr ⟨a, ha, List.mem_map.mpr ⟨e, he, rfl⟩⟩)
  · intro h e he
    obtain ⟨a, ha, hm⟩ := List.mem_flatMap.mp he
    obtain ⟨q, hq, rfl⟩ := List.mem_map.mp hm
    exact h a ha q hq
theorem un_zero {f : Int → List Int} {lost : Int → Bool} {p : Int} : unlost lost f p 0 ↔ lost p = false := by
  constructor
  · intro h
    exact h ([], p) (List.mem_singleton.mpr rfl)
  · intro h e he
    rw [List.mem_singleton.mp he]
    exact h
/-- what a length says -/
theorem dst_says (f : Int → List Int) (lost : Int → Bool) : ∀ r p, (dst f lost r p = -1 → ∀ l, l ≤ r → unlost lost f p l) ∧ (∀ L : Nat, dst f lost r p = L → L ≤ r ∧ (∀ l, l < L → unlost lost f p l) ∧ ¬ unlost lost f p L)
  | 0, p => by
    unfold dst
    split
    · rename_i h
      refine ⟨fun e => (by cases e), fun L e => ?_⟩
      have : L = 0 := by omega
      subst this
      refine ⟨Nat.le_refl 0, fun l hl => absurd hl (Nat.not_lt_zero l), fun hu => ?_⟩
      rw [un_zero.mp hu] at h
      cases h
    · rename_i h
      refine ⟨fun _ l hl => ?_, fun L e => by omega⟩
      have : l = 0 := by omega
      subst this
      exact un_zero.mpr (by simpa using h)
  | r + 1, p => by
    have ih := dst_says f lost r p
    have hg := dst_ge f lost r p
    unfold dst
    split
    · rename_i h0
      refine ⟨fun e => by omega, fun L e => ?_⟩
      obtain ⟨h1, h2, h3⟩ := ih.2 L e
      exact ⟨by omega, h2, h3⟩
    · rename_i h0
      have hm : dst f lost r p = -1 := by omega
      have hun := ih.1 hm
      split
      · rename_i ha
        refine ⟨fun e => by omega, fun L e => ?_⟩
        have : L = r + 1 := by omega
        subst this
        refine ⟨Nat.le_refl _, fun l hl => hun l (by omega), fun hu => ?_⟩
        obtain ⟨a, haf, ha0⟩ := List.any_eq_true.mp ha
        have ha0' := of_decide_eq_true ha0
        have hga := dst_ge f lost r a
        obtain ⟨j, hj⟩ : ∃ j : Nat, dst f lost r a = j := ⟨(dst f lost r a).toNat, by omega⟩
        obtain ⟨k1, k2, k3⟩ := (dst_says f lost r a).2 j hj
        rcases Nat.lt_or_ge j r with hl | hl
        · exact k3 (un_front.mp (hun (j + 1) (by omega)) a haf)
        · have : j = r := by omega
          subst this
          exact k3 (un_front.mp hu a haf)
      · rename_i ha
        refine ⟨fun _ l hl => ?_, fun L e => by omega⟩
        rcases Nat.lt_or_ge l (r + 1) with hlt | hge
        · exact hun l (by omega)
        · have : l = r + 1 := by omega
          subst this
          refine un_front.mpr fun a haf => ?_
          have : dst f lost r a = -1 := by
            have := dst_ge f lost r a
            refine this.resolve_right fun h => ha (List.any_eq_true.mpr ⟨a, haf, decide_eq_true h.1⟩)
          exact (dst_says f lost r a).1 this r (Nat.le_refl r)
theorem dst_stop {f : Int → List Int} {lost : Int → Bool} {n : Int} {r : Nat} (hf : ∀ p, ∀ a ∈ f p, -1 ≤ a ∧ a < n) (h : ∀ p, -1 ≤ p → p < n → dst f lost (r + 1) p = dst f lost r p) : ∀ K, r ≤ K → ∀ p, -1 ≤ p → p < n → dst f lost K p = dst f lost r p := by
  have one : ∀ j, ∀ p, -1 ≤ p → p < n → dst f lost (r + j) p = dst f lost r p := fun j => by
    induction j with
    | zero => exact fun p _ _ => rfl
    | succ j ih =>
      intro p h0 h1
      have hp := h p h0 h1
      have hp' := ih p h0 h1
      show dst f lost (r + j + 1) p = _
      rw [dst_s] at hp ⊢
      rw [hp']
      by_cases hz : 0 ≤ dst f lost r p
      · rw [if_pos hz]
      · rw [if_neg hz] at hp ⊢
        have hany : (f p).any (fun a => decide (0 ≤ dst f lost (r + j) a)) = (f p).any (fun a => decide (0 ≤ dst f lost r a)) := by
          have : ∀ l : List Int, (∀ a ∈ l, -1 ≤ a ∧ a < n) → l.any (fun a => decide (0 ≤ dst f lost (r + j) a)) = l.any (fun a => decide (0 ≤ dst f lost r a)) := fun l => by
            induction l with
            | nil => exact fun _ => rfl
            | cons a l ihl =>
              intro hl
              rw [List.any_cons, List.any_cons, ihl fun b hb => hl b (List.mem_cons_of_mem _ hb), ih a (hl a (List.mem_cons_self ..)).1 (hl a (List.mem_cons_self ..)).2]
          exact this _ (hf p)
        rw [hany]
        by_cases ha : (f p).any (fun a => decide (0 ≤ dst f lost r a)) = true
        · rw [if_pos ha] at hp
          exact absurd (show 0 ≤ dst f lost r p by omega) hz
        · rw [if_neg ha] at hp ⊢
          exact hp
  intro K hK
  obtain ⟨j, rfl⟩ : ∃ j, K = r + j := ⟨K - r, by omega⟩
  exact one j
/-- the row that is picked step by step -/
def pickR (f : Int → List Int) (d : Int → Int) : Nat → Int → List Int
  | 0, _ => []
  | L + 1, p => match (f p).find? fun a => decide (d a = (L : Int)) with
    | none => []
    | some a => a :: pickR f d L a
theorem find_flat {f : Int → List Int} {lost : Int → Bool} {d : Int → Int} {L : Nat} : ∀ l : List Int, (∀ a ∈ l, d a = (L : Int) ↔ ¬ unlost lost f a L) → (l.flatMap fun a => (rowsL f a L).map fun e => (a :: e.1, e.2)).find? (fun e => lost e.2) =
    match l.find? fun a => decide (d a = (L : Int)) with
    | none => none
    | some a => ((rowsL f a L).find? fun e => lost e.2).map fun e => (a :: e.1, e.2)
  | [], _ => rfl
  | a :: r, hd => by
    have hda := hd a (List.mem_cons_self ..)
    rw [List.flatMap_cons, List.find?_append, List.find?_map, List.find?_cons]
    by_cases h : d a = (L : Int)
    · rw [decide_eq_true h]
      have hn := hda.mp h
      cases hf : (rowsL f a L).find? fun e => lost e.2 with
      | none =>
        refine absurd (fun e he => ?_) hn
        have := List.find?_eq_none.mp hf e he
        simpa using this
      | some e =>
        rw [show (rowsL f a L).find? ((fun e => lost e.2) ∘ fun e => (a :: e.1, e.2)) = some e from hf]
        simp [hf]
    · rw [decide_eq_false h]
      have hn : unlost lost f a L := Classical.byContradiction fun h2 => h (hda.mpr h2)
      have hf : (rowsL f a L).find? ((fun e : List Int × Int => lost e.2) ∘ fun e => (a :: e.1, e.2)) = none := List.find?_eq_none.mpr fun e he => by
        have := hn e he
        simp [this]
      rw [hf]
      exact find_flat r fun b hb => hd b (List.mem_cons_of_mem _ hb)
theorem pick_row {f : Int → List Int} {lost : Int → Bool} {n : Nat} : ∀ (L : Nat) (p : Int) (q : List Int × Int), L ≤ n → (∀ l, l < L → unlost lost f p l) → ((rowsL f p L).find? fun e => lost e.2) = some q → q.1 = pickR f (dst f lost n) L p
  | 0, p, q, _, _, h => by
    have := List.mem_of_find?_eq_some h
    rw [List.mem_singleton.mp this]
    rfl
  | L + 1, p, q, hL, hu, h => by
    have hd : ∀ a ∈ f p, dst f lost n a = (L : Int) ↔ ¬ unlost lost f a L := fun a ha => by
      have hs := dst_says f lost n a
      constructor
      · exact fun e => (hs.2 L e).2.2
      · intro hn
        have hg := dst_ge f lost n a
        rcases hg with hg | hg
        · exact absurd (hs.1 hg L (by omega)) hn
        · obtain ⟨j, hj⟩ : ∃ j : Nat, dst f lost n a = j := ⟨(dst f lost n a).toNat, by omega⟩
          obtain ⟨k1, k2, k3⟩ := hs.2 j hj
          rcases Nat.lt_trichotomy j L with h | h | h
          · exact absurd (un_front.mp (hu (j + 1) (by omega)) a ha) k3
          · rw [hj, h]
          · exact absurd (k2 L h) hn
    rw [rows_front, find_flat (d := dst f lost n) _ hd] at h
    unfold pickR
    cases hf : (f p).find? fun a => decide (dst f lost n a = (L : Int)) with
    | none =>
      rw [hf] at h
      cases h
    | some a =>
      rw [hf] at h
      obtain ⟨e, he, rfl⟩ := Option.map_eq_some_iff.mp h
      have ham := List.mem_of_find?_eq_some hf
      have := pick_row (n := n) L a e (by omega) (fun l hl => un_front.mp (hu (l + 1) (by omega)) a ham) he
      show a :: e.1 = a :: _
      rw [this]
end NL

namespace NL
open PySem PySem.Spec PyProof.Rows L2
theorem eqv_ints : ∀ l m : List Int, PyData.eqvAll (l.map PyData.int) (m.map PyData.int) = true → l = m
  | [], [], _ => rfl
  | [], b :: m, h => by cases h
  | a :: l, [], h => by cases h
  | a :: l, b :: m, h => by
    have h' : ((a == b) && PyData.eqvAll (l.map PyData.int) (m.map PyData.int)) = true := h
    rw [Bool.and_eq_true] at h'
    rw [eq_of_beq h'.1, eqv_ints l m h'.2]
def lsF (n : Nat) (φ : Nat → Int) : List Int := (List.range n).map φ
theorem lsF_len (n : Nat) (φ : Nat → Int) : (lsF n φ).length = n := by unfold lsF; rw [List.length_map, List.length_range]
theorem lsF_at {n : Nat} {φ : Nat → Int} {k : Nat} (h : k < n) : (lsF n φ)[k]? = some (φ k) := by
  unfold lsF
  rw [List.getElem?_map, List.getElem?_range h]
  rfl
theorem lsF_get {n : Nat} {φ : Nat → Int} {k : Int} (h0 : 0 ≤ k) (h1 : k < n) : atI ((lsF n φ).map V.int) k = some (.int (φ k.toNat)) := by
  have := atI_nat (j := k.toNat) (show ((lsF n φ).map V.int)[k.toNat]? = some (V.int (φ k.toNat)) by rw [List.getElem?_map, lsF_at (by omega)]; rfl)
  rw [show ((k.toNat : Nat) : Int) = k by omega] at this
  exact this
theorem lsF_ext {n : Nat} {φ ψ : Nat → Int} (h : ∀ k, k < n → φ k = ψ k) : lsF n φ = lsF n ψ := List.map_congr_left fun k hk => h k (List.mem_range.mp hk)
theorem lsF_inj {n : Nat} {φ ψ : Nat → Int} (h : lsF n φ = lsF n ψ) (k : Nat) (hk : k < n) : φ k = ψ k := by
  have := lsF_at (φ := φ) hk
  rw [h, lsF_at hk] at this
  exact (Option.some.inj this).symm
theorem lsF_set {n i : Nat} {φ : Nat → Int} {c : Int} (hi : i < n) : ((lsF n φ).map V.int).set i (.int c) = (lsF n fun k => if k = i then c else φ k).map V.int := by
  refine List.ext_getElem? fun k => ?_
  rw [List.getElem?_set]
  by_cases hk : i = k
  · subst hk
    rw [if_pos rfl, if_pos (by rw [List.length_map, lsF_len]; exact hi), List.getElem?_map, lsF_at hi, Option.map_some, if_pos rfl]
  · rw [if_neg hk, List.getElem?_map, List.getElem?_map]
    rcases Nat.lt_or_ge k n with h | h
    · rw [lsF_at h, lsF_at h, if_neg (fun e => hk e.symm)]
    · rw [List.getElem?_eq_none (by rw [lsF_len]; exact h), List.getElem?_eq_none (by rw [lsF_len]; exact h)]
theorem lsF_snoc (n : Nat) (φ : Nat → Int) : (lsF (n + 1) φ).map V.int = (lsF n φ).map V.int ++ [V.int (φ n)] := by
  unfold lsF
  rw [List.range_succ, List.map_append, List.map_append]
  rfl
theorem sc_emp {A : Ar} {G : List Int} (hG : ArG A) (hS : StG A G) {p : Int} (h0 : 0 ≤ p) (h1 : p < A.length) {gi : Int} (hg : G[p.toNat]? = some gi) : (scF A G p).isEmpty = decide (gi < 0) := by
  have hol : p.toNat < A.length := by omega
  have ho := List.getElem?_eq_getElem hol
  generalize A[p.toNat] = os at ho
  by_cases h : gi = -1
  · rw [h]
    unfold scF scO
    rw [if_pos h0, ho, hg, h]
    rfl
  · have hix := (hS.ix _ gi os hg ho).resolve_left h
    have hlt : gi.toNat < os.length := by omega
    have h3 := List.getElem?_eq_getElem hlt
    rw [sc_at h0 ho hg h h3]
    have hne := ((hG.2 os (List.mem_of_getElem? ho)).2 _ (List.mem_of_getElem? h3)).ne
    rw [decide_eq_false (by omega)]
    cases hh : os[gi.toNat] with
    | nil => exact absurd hh hne
    | cons a r => rfl
theorem inT_int {x : Int} {l : List Int} : (V.bl (if false = true then !inV (V.int x) (l.map V.int) else inV (V.int x) (l.map V.int))) = V.bl (decide (x ∈ l)) := by
  rw [if_neg Bool.false_ne_true, int_in]
theorem shaped_lst (l : List Int) : SeqAt.shaped (.list (l.map PyData.int)) = true := by
  obtain ⟨h1, h2⟩ := lay_ints l
  show (PyData.canLayAll0 (l.map PyData.int) && decide (PyData.depthAll (l.map PyData.int) + 1 ≤ 64)) = true
  rw [h1, h2]
  rfl
theorem dst_lost {f : Int → List Int} {lost : Int → Bool} {p : Int} (h : lost p = true) : ∀ r, dst f lost r p = 0
  | 0 => by unfold dst; rw [if_pos h]
  | r + 1 => by
    rw [dst_s, dst_lost h r, if_pos (Int.le_refl 0)]
theorem set_ints {H : Hp} {p : Addr} {l : List V} (e : H p = some (.lst l)) (q : List V) : Tp H (upd H p (.lst q)) := tp_put Tp.refl e
section
variable {P : Program} {w : World} {K : PySem.W.Frag} {mg : Str → Option Value} {base : Heap}
/-! ### _law_distances -/
def dF (A : Ar) (G Kp : List Int) (r k : Nat) : Int := dst (scF A G) (lostB A G Kp) r (k : Int)
def spDist : Sp := fun vs H Q _ => ∃ (v : V) (A : Ar) (kp g : Addr) (Kp G : List Int), vs = [v, .ref kp, .ref g] ∧ ArIn H A v ∧ ArG A ∧ H kp = some (.tup (Kp.map V.int)) ∧ H g = some (.tup (G.map V.int)) ∧ StG A G ∧
  ∀ p H', Same H H' → H' p = some (.lst ((lsF A.length (dF A G Kp A.length)).map V.int)) → Q (.ref p) H'
theorem ok_law_distances (T : Txt K mg) : FnOk P w K mg base CX0 1 T.a_law_distances T.d_law_distances P_law_distances spDist := by
  refine T.F_law_distances.ok sc_law_distances (fun vs H Q E h => ?_) (fun cdv A outer s H vs Q E hr h => ?_)
  · obtain ⟨v, A, kp, g, Kp, G, rfl, _⟩ := h
    rfl
  obtain ⟨v, A0, kp, g, Kp, G, rfl, ⟨b0, xs, rfl, e0, hxs⟩, hG, ek, eg, hS, q⟩ := h
  have hxl := hxs.1
  have h46 := hG.1
  have hmem := (sc_good (G := G) hG).mem
  refine ⟨_, (pss_cons (ps_set (i := 3) sc_law_distances.nd rfl (Or.inl rfl) (pe_lst pa_nil))
    (pss_cons (ps_for  PassesOwn.never rfl (pi_range1 (by rfl) T.z_range (pa_cons (pe_callB call_len_seq (by rfl) T.z_len PySem.boot_len (pa_cons (pv 0) pa_nil)) pa_nil)) (pg_name (i := 4) sc_law_distances.nd rfl (Or.inl rfl))
    (pss_one (ps_expr (pe_bm PySem.F.plainAttrs_list PySem.F.slot_list_append PySem.F.type_list_append mt_append (pv 3) (pa_cons (pe_ix ix_list (pe_lst (pa_cons pe_int (pa_cons (pe_un un_neg pe_int) pa_nil))) (pe_callTy call_int1 (by rfl) T.z_int (by decide +kernel) (pa_cons (pe_and (pe_cmpR op_in_seq (pv 4) (pv 1) (by rfl)) (pe_one (pe_cmpR op_ge (pe_ix ix_tup (pv 2) (pv 4) (fun _ _ => rfl)) pe_int (nomark _)))) pa_nil)) (fun _ _ => rfl)) pa_nil)))))
    (pss_cons (ps_for  PassesOwn.never rfl (pi_range2 (by rfl) T.z_range (pa_cons pe_int (pa_cons (pe_op op_add (pe_callB call_len_seq (by rfl) T.z_len PySem.boot_len (pa_cons (pv 0) pa_nil)) pe_int) pa_nil))) (pg_name (i := 5) sc_law_distances.nd rfl (Or.inl rfl))
    (pss_cons (ps_set (i := 6) sc_law_distances.nd rfl (Or.inl rfl) (pe_callTy call_list_of (by rfl) T.z_list (by decide +kernel) (pa_cons (pv 3) pa_nil)))
    (pss_cons (ps_for  PassesOwn.never rfl (pi_range1 (by rfl) T.z_range (pa_cons (pe_callB call_len_seq (by rfl) T.z_len PySem.boot_len (pa_cons (pv 0) pa_nil)) pa_nil)) (pg_name (i := 4) sc_law_distances.nd rfl (Or.inl rfl))
    (pss_one (ps_if (pt_cmpR op_lt (pe_ix ix_list (pv 6) (pv 4) (fun _ _ => rfl)) pe_int (nomark _))
    (pss_one (ps_for  PassesOwn.never rfl (pi_tup (pe_ix ix_tup (pe_ix ix_tup (pv 0) (pv 4) (fun _ _ => rfl)) (pe_ix ix_tup (pv 2) (pv 4) (fun _ _ => rfl)) (fun _ _ => rfl))) (pg_name (i := 7) sc_law_distances.nd rfl (Or.inl rfl))
    (pss_one (ps_if (PW.pt (pw_or (pt_cmpR op_eq (pv 7) (pe_un un_neg pe_int) (nomark _)) (pw_or1 (pt_cmpR op_ge (pe_ix ix_list (pv 6) (pv 7) (fun _ _ => rfl)) pe_int (nomark _)))))
    (pss_one (ps_asg (pv 5) (pg_sub (pv 3) (pv 4) set_list)))
    pss_nil))))
    pss_nil)))
    (pss_one (ps_if (pt_cmpR (op_eqD hr.units) (pv 3) (pv 6) (nomark _))
    (pss_one ps_break)
    pss_nil)))))
    (pss_one (ps_ret (pv 3)))))), ?_⟩
  refine ⟨Nat.zero_le _, fun fl hfl => ?_⟩
  obtain ⟨H1, e1, s1, k1⟩ := newH hfl (.lst [])
  rw [e1]
  refine ⟨_, rfl, b0, _, rfl, .inr (sqt (s1 _ _ e0)), _, rfl, by omega, by omega, ?_⟩
  refine for_range (lo := 0) (n := ((xs.length : Nat) : Int).toNat) (fun (j : Nat) (σ : L2.St) (H' : Hp) => ∃ y4 : Option V, σ = [some (.ref b0), some (.ref kp), some (.ref g), some (.ref fl), y4, none, none, none] ∧ Same H H' ∧ H' fl = some (.lst ((lsF j (dF A0 G Kp 0)).map V.int))) ?_ ?_ ?_
  · exact ⟨none, rfl, s1, k1⟩
  · rintro j σ H2 hj ⟨y4, rfl, s2, kf⟩
    have hjA : j < A0.length := by omega
    have hjG : j < G.length := by rw [hS.len]; exact hjA
    have hg := List.getElem?_eq_getElem hjG
    generalize G[j] = gi at hg
    have hse := sc_emp (p := (j : Int)) hG hS (by omega) (by omega) (gi := gi) (by simpa using hg)
    have hat : atI (G.map V.int) (0 + (j : Int)) = some (V.int gi) := by
      rw [Int.zero_add]
      exact atI_nat (show (G.map V.int)[j]? = some (V.int gi) by rw [List.getElem?_map, hg]; rfl)
    refine ⟨_, rfl, .inl ⟨rfl, _, sqd kf⟩, _, rfl, Nat.le_of_ble_eq_true rfl, fun l hl => ?_⟩
    obtain ⟨H3, e3, s3, k3⟩ := newH hl (.lst [V.int 0, V.int (-1)])
    rw [e3]
    have fin : ∀ c : Int, c = dF A0 G Kp 0 j → ∃ y4 : Option V, [some (V.ref b0), some (.ref kp), some (.ref g), some (.ref fl), some (.int (0 + (j : Int))), none, none, none] = [some (.ref b0), some (.ref kp), some (.ref g), some (.ref fl), y4, none, none, none] ∧ Same H (upd H3 fl (.lst ((lsF j (dF A0 G Kp 0)).map V.int ++ [V.int c]))) ∧ (upd H3 fl (.lst ((lsF j (dF A0 G Kp 0)).map V.int ++ [V.int c]))) fl = some (.lst ((lsF (j + 1) (dF A0 G Kp 0)).map V.int)) := fun c hc => ⟨_, rfl, same_put (s2.trans s3) hfl, by rw [upd_same, lsF_snoc, hc]⟩
    have hd : dF A0 G Kp 0 j = if lostB A0 G Kp (j : Int) = true then 0 else -1 := rfl
    have big1 : ((lsF j (dF A0 G Kp 0)).map V.int).length ≤ 1000000 := by rw [List.length_map, lsF_len]; omega
    have kf3 := s3 _ _ kf
    by_cases hm : (0 : Int) + (j : Int) ∈ Kp
    · refine ⟨_, rfl, _, rfl, kp, _, rfl, .inr (sqt ((s2.trans s3) _ _ ek)), rfl, flat_ints' Kp, true, by rw [inT_int, decide_eq_true hm], ?_⟩
      refine iteT ?_
      refine ⟨_, rfl, _, rfl, g, _, _, _, rfl, rfl, sqt ((s2.trans s3) _ _ eg), hat, _, _, rfl, rfl, .inr ⟨_, rfl, ?_⟩⟩
      have hl : lostB A0 G Kp (j : Int) = decide (gi < 0) := by
        unfold lostB
        rw [hse, decide_eq_true (show (j : Int) ∈ Kp by rw [Int.zero_add] at hm; exact hm), Bool.not_true, Bool.or_false]
      by_cases hgi : gi < 0
      · rw [show decide (gi ≥ 0) = false from decide_eq_false (by omega)]
        refine ⟨l, _, _, _, rfl, rfl, sqd k3, atI0, fl, _, _, rfl, rfl, kf3, big' big1, fin 0 ?_⟩
        rw [hd, hl, decide_eq_true hgi, if_pos rfl]
      · rw [show decide (gi ≥ 0) = true from decide_eq_true (by omega)]
        refine ⟨l, _, _, _, rfl, rfl, sqd k3, atI1, fl, _, _, rfl, rfl, kf3, big' big1, fin (-1) ?_⟩
        rw [hd, hl, decide_eq_false hgi, if_neg Bool.false_ne_true]
    · refine ⟨_, rfl, _, rfl, kp, _, rfl, .inr (sqt ((s2.trans s3) _ _ ek)), rfl, flat_ints' Kp, false, by rw [inT_int, decide_eq_false hm], ?_⟩
      refine iteF (.inr ⟨_, rfl, ?_⟩)
      refine ⟨l, _, _, _, rfl, rfl, sqd k3, atI0, fl, _, _, rfl, rfl, kf3, big' big1, fin 0 ?_⟩
      have hl : lostB A0 G Kp (j : Int) = true := by
        unfold lostB
        rw [decide_eq_false (show ¬ (j : Int) ∈ Kp by rw [Int.zero_add] at hm; exact hm), Bool.not_false, Bool.or_true]
      rw [hd, hl, if_pos rfl]
  rintro σ H2 ⟨y4, rfl, s2, kf⟩
  rw [show ((xs.length : Nat) : Int).toNat = A0.length by omega] at kf
  have hflH : H fl = none := hfl
  refine ⟨_, rfl, b0, _, rfl, .inr (sqt (s2 _ _ e0)), _, _, rfl, rfl, _, _, rfl, ⟨by omega, by omega, by omega, by omega⟩, ?_⟩
  refine for_range (lo := 1) (n := ((xs.length : Int) + 1 - 1).toNat) (fun (j : Nat) (σ : L2.St) (H' : Hp) => ∃ y4 y5 y6 y7 : Option V, σ = [some (.ref b0), some (.ref kp), some (.ref g), some (.ref fl), y4, y5, y6, y7] ∧ Same H H' ∧ H' fl = some (.lst ((lsF A0.length (dF A0 G Kp j)).map V.int))) ?_ ?_ ?_
  · exact ⟨y4, none, none, none, rfl, s2, kf⟩
  · rintro j σ H3 hj ⟨y4, y5, y6, y7, rfl, s3, kf3⟩
    have hjn : j < A0.length := by omega
    generalize hrk : (1 : Int) + (j : Int) = rank
    refine ⟨_, rfl, fl, _, rfl, .inl (sqd kf3), fun bl hbl => ?_⟩
    obtain ⟨H4, e4, s4, k4⟩ := newH hbl (.lst ((lsF A0.length (dF A0 G Kp j)).map V.int))
    rw [e4]
    have hne : fl ≠ bl := fun z => by
      rw [← z, kf3] at hbl
      cases hbl
    refine ⟨_, rfl, b0, _, rfl, .inr (sqt ((s3.trans s4) _ _ e0)), _, rfl, by omega, by omega, ?_⟩
    refine for_range (lo := 0) (n := ((xs.length : Nat) : Int).toNat) (fun (i : Nat) (σ : L2.St) (H' : Hp) => ∃ y4 y7 : Option V, σ = [some (.ref b0), some (.ref kp), some (.ref g), some (.ref fl), y4, some (.int rank), some (.ref bl), y7] ∧ Same H H' ∧ H' bl = some (.lst ((lsF A0.length (dF A0 G Kp j)).map V.int)) ∧ H' fl = some (.lst ((lsF A0.length fun k => if k < i then dF A0 G Kp (j + 1) k else dF A0 G Kp j k).map V.int))) ?_ ?_ ?_
    · exact ⟨y4, y7, rfl, s3.trans s4, k4, s4 _ _ kf3⟩
    · rintro i σ H5 hi ⟨y4, y7, rfl, s5, kb5, kf5⟩
      have hiA : i < A0.length := by omega
      generalize hat : (0 : Int) + (i : Int) = at_
      have hai : at_ = (i : Int) := by omega
      have hti : at_.toNat = i := by omega
      refine ⟨_, rfl, _, rfl, bl, _, _, _, rfl, rfl, sqd kb5, lsF_get (by omega) (by omega), _, _, rfl, rfl, _, rfl, ?_⟩
      rw [hti]
      refine ite2 (fun z => ?_) (fun z => ?_)
      · have hlt : dF A0 G Kp j i < 0 := of_decide_eq_true z
        have hm1 : dst (scF A0 G) (lostB A0 G Kp) j at_ = -1 := by
          have := dst_ge (scF A0 G) (lostB A0 G Kp) j at_
          rw [hai] at this ⊢
          unfold dF at hlt
          omega
        have hun := un_zero.mp ((dst_says _ _ j at_).1 hm1 0 (Nat.zero_le _))
        obtain ⟨hq, b1, ws, gi, t, j1, j2, j3, j4, j5⟩ := find_opt hxs hG hS (by omega) (by omega) hun
        refine ⟨_, rfl, _, rfl, b0, _, _, _, rfl, rfl, sqt (s5 _ _ e0), j1, _, rfl, _, rfl, g, _, _, _, rfl, rfl, sqt (s5 _ _ eg), j3, b1, _, _, _, rfl, rfl, sqt (s5 _ _ j2), j4, t, rfl, ⟨_, sqt (s5 _ _ j5)⟩, ?_⟩
        refine for_tup (K := K) (a := t) (xs := (scF A0 G at_).map V.int) (fun (m : Nat) (σ : L2.St) (H' : Hp) => ∃ y7 : Option V, σ = [some (.ref b0), some (.ref kp), some (.ref g), some (.ref fl), some (.int at_), some (.int rank), some (.ref bl), y7] ∧ Same H H' ∧ H' bl = some (.lst ((lsF A0.length (dF A0 G Kp j)).map V.int)) ∧ H' fl = some (.lst ((lsF A0.length fun k => if k < i then dF A0 G Kp (j + 1) k else if k = i ∧ ((scF A0 G at_).take m).any (fun a => decide (0 ≤ dst (scF A0 G) (lostB A0 G Kp) j a)) = true then rank else dF A0 G Kp j k).map V.int))) ?_ ?_ ?_ ?_
        · refine ⟨y7, rfl, s5, kb5, ?_⟩
          rw [kf5]
          congr 3
          refine lsF_ext fun k _ => ?_
          by_cases h : k < i
          · rw [if_pos h, if_pos h]
          · rw [if_neg h, if_neg h, if_neg (fun h => by cases h.2)]
        · rintro m σ H' _ ⟨y7, rfl, s6, _⟩
          exact sqt (s6 _ _ j5)
        · rintro m x σ H6 hx ⟨y7, rfl, s6, kb6, kf6⟩
          rw [List.getElem?_map] at hx
          obtain ⟨c, hc, rfl⟩ := Option.map_eq_some_iff.mp hx
          have hcm := hmem _ c (List.mem_of_getElem? hc)
          have hstep : ((scF A0 G at_).take (m + 1)).any (fun a => decide (0 ≤ dst (scF A0 G) (lostB A0 G Kp) j a)) = (((scF A0 G at_).take m).any (fun a => decide (0 ≤ dst (scF A0 G) (lostB A0 G Kp) j a)) || decide (0 ≤ dst (scF A0 G) (lostB A0 G Kp) j c)) := by
            rw [List.take_add_one, hc, List.any_append]
            simp
          have put : decide (0 ≤ dst (scF A0 G) (lostB A0 G Kp) j c) = true → ∃ y7' : Option V, [some (V.ref b0), some (.ref kp), some (.ref g), some (.ref fl), some (.int at_), some (.int rank), some (.ref bl), some (.int c)] = [some (.ref b0), some (.ref kp), some (.ref g), some (.ref fl), some (.int at_), some (.int rank), some (.ref bl), y7'] ∧ Same H (upd H6 fl (.lst (((lsF A0.length fun k => if k < i then dF A0 G Kp (j + 1) k else if k = i ∧ ((scF A0 G at_).take m).any (fun a => decide (0 ≤ dst (scF A0 G) (lostB A0 G Kp) j a)) = true then rank else dF A0 G Kp j k).map V.int).set at_.toNat (.int rank)))) ∧ (upd H6 fl (.lst (((lsF A0.length fun k => if k < i then dF A0 G Kp (j + 1) k else if k = i ∧ ((scF A0 G at_).take m).any (fun a => decide (0 ≤ dst (scF A0 G) (lostB A0 G Kp) j a)) = true then rank else dF A0 G Kp j k).map V.int).set at_.toNat (.int rank)))) bl = some (.lst ((lsF A0.length (dF A0 G Kp j)).map V.int)) ∧ (upd H6 fl (.lst (((lsF A0.length fun k => if k < i then dF A0 G Kp (j + 1) k else if k = i ∧ ((scF A0 G at_).take m).any (fun a => decide (0 ≤ dst (scF A0 G) (lostB A0 G Kp) j a)) = true then rank else dF A0 G Kp j k).map V.int).set at_.toNat (.int rank)))) fl = some (.lst ((lsF A0.length fun k => if k < i then dF A0 G Kp (j + 1) k else if k = i ∧ ((scF A0 G at_).take (m + 1)).any (fun a => decide (0 ≤ dst (scF A0 G) (lostB A0 G Kp) j a)) = true then rank else dF A0 G Kp j k).map V.int)) := fun hd => by
            refine ⟨_, rfl, same_put s6 hflH, by rw [upd_ne hne.symm]; exact kb6, ?_⟩
            rw [upd_same, hti, lsF_set hiA]
            congr 3
            refine lsF_ext fun k _ => ?_
            rw [hstep, hd, Bool.or_true]
            by_cases hk : k = i
            · rw [if_pos hk, if_neg (by omega), if_pos ⟨hk, rfl⟩]
            · rw [if_neg hk]
              by_cases h : k < i
              · rw [if_pos h, if_pos h]
              · rw [if_neg h, if_neg h, if_neg (fun h => hk h.1), if_neg (fun h => hk h.1)]
          refine ⟨_, rfl, _, rfl, rfl, _, rfl, ?_⟩
          refine ite2 (fun z1 => ?_) (fun z1 => ?_)
          · have hc1 : c = -1 := int_eq z1
            refine ⟨_, rfl, _, rfl, _, rfl, fl, _, _, _, rfl, rfl, kf6, ixN_in (by omega) (by rw [List.length_map, lsF_len]; omega), put ?_⟩
            rw [hc1, dst_lost (by rfl) j]
            rfl
          · have hc1 : c ≠ -1 := int_ne z1
            refine ⟨_, rfl, _, rfl, bl, _, _, _, rfl, rfl, sqd kb6, lsF_get (by omega) (by omega), _, _, rfl, rfl, _, rfl, ?_⟩
            have hdc : dF A0 G Kp j c.toNat = dst (scF A0 G) (lostB A0 G Kp) j c := by
              unfold dF
              rw [show ((c.toNat : Nat) : Int) = c by omega]
            rw [hdc]
            refine ite2 (fun z2 => ?_) (fun z2 => ?_)
            · refine ⟨_, rfl, _, rfl, _, rfl, fl, _, _, _, rfl, rfl, kf6, ixN_in (by omega) (by rw [List.length_map, lsF_len]; omega), put ?_⟩
              exact decide_eq_true (of_decide_eq_true z2)
            · refine ⟨_, rfl, s6, kb6, ?_⟩
              have : decide (0 ≤ dst (scF A0 G) (lostB A0 G Kp) j c) = false := decide_eq_false (fun h => z2 (decide_eq_true h))
              rw [kf6]
              rw [hstep, this, Bool.or_false]
        · rintro σ H6 ⟨y7, rfl, s6, kb6, kf6⟩
          rw [List.length_map, List.take_length] at kf6
          refine ⟨_, _, rfl, s6, kb6, ?_⟩
          rw [kf6]
          congr 3
          refine lsF_ext fun k _ => ?_
          by_cases h : k < i
          · rw [if_pos h, if_pos (by omega)]
          · rw [if_neg h]
            by_cases hk : k = i
            · subst hk
              rw [if_pos (Nat.lt_succ_self k)]
              unfold dF at hlt ⊢
              rw [dst_s, if_neg (show ¬ 0 ≤ dst (scF A0 G) (lostB A0 G Kp) j (k : Int) by omega), ← hai]
              by_cases ha : (scF A0 G at_).any (fun a => decide (0 ≤ dst (scF A0 G) (lostB A0 G Kp) j a)) = true
              · rw [if_pos ha, if_pos ⟨rfl, ha⟩]
                omega
              · rw [if_neg ha, if_neg (fun h => ha h.2)]
                exact hm1
            · rw [if_neg (fun h => hk h.1), if_neg (by omega)]
      · have hge : ¬ dF A0 G Kp j i < 0 := fun h => z (decide_eq_true h)
        refine ⟨_, _, rfl, s5, kb5, ?_⟩
        rw [kf5]
        congr 3
        refine lsF_ext fun k _ => ?_
        by_cases h : k < i
        · rw [if_pos h, if_pos (by omega)]
        · rw [if_neg h]
          by_cases hk : k = i
          · subst hk
            rw [if_pos (Nat.lt_succ_self k)]
            unfold dF at hge ⊢
            rw [dst_s, if_pos (by omega)]
          · rw [if_neg (by omega)]
    · rintro σ H5 ⟨y4, y7, rfl, s5, kb5, kf5⟩
      have hall : (lsF A0.length fun k => if k < ((xs.length : Nat) : Int).toNat then dF A0 G Kp (j + 1) k else dF A0 G Kp j k) = lsF A0.length (dF A0 G Kp (j + 1)) := lsF_ext fun k hk => if_pos (by omega)
      rw [hall] at kf5
      refine ⟨_, rfl, _, rfl, .list ((lsF A0.length (dF A0 G Kp (j + 1))).map PyData.int), .list ((lsF A0.length (dF A0 G Kp j)).map PyData.int), .lst (sqd kf5) (dp_ints _), .lst (sqd kb5) (dp_ints _), shaped_lst _, shaped_lst _, _, rfl, ?_⟩
      refine ite2 (fun z => ?_) (fun z => ?_)
      · have heq := eqv_ints _ _ z
        have hst := dst_stop (f := scF A0 G) (lost := lostB A0 G Kp) (n := (A0.length : Int)) (r := j) hmem (fun p h0 h1 => by
          by_cases hp : p = -1
          · rw [hp, dst_lost (by rfl), dst_lost (by rfl)]
          · have := lsF_inj heq p.toNat (by omega)
            unfold dF at this
            rw [show ((p.toNat : Nat) : Int) = p by omega] at this
            exact this)
        have hfin : lsF A0.length (dF A0 G Kp (j + 1)) = lsF A0.length (dF A0 G Kp A0.length) := lsF_ext fun k hk => by
          unfold dF
          rw [hst (j + 1) (by omega) k (by omega) (by omega), hst A0.length (by omega) k (by omega) (by omega)]
        rw [hfin] at kf5
        exact ⟨_, rfl, q fl H5 s5 kf5⟩
      · exact ⟨_, _, _, _, rfl, s5, kf5⟩
  · rintro σ H3 ⟨y4, y5, y6, y7, rfl, s3, kf3⟩
    rw [show ((xs.length : Int) + 1 - 1).toNat = A0.length by omega] at kf3
    exact ⟨_, rfl, q fl H3 s3 kf3⟩
end
end NL

namespace NL
open PySem PySem.Spec PyProof.Rows L2
theorem dst_iff {f : Int → List Int} {lost : Int → Bool} {n L : Nat} {p : Int} (hL : L + 1 ≤ n) (hu : ∀ l, l < L + 1 → unlost lost f p l) : ∀ a ∈ f p, dst f lost n a = (L : Int) ↔ ¬ unlost lost f a L := fun a ha => by
  have hs := dst_says f lost n a
  constructor
  · exact fun e => (hs.2 L e).2.2
  · intro hn
    have hg := dst_ge f lost n a
    rcases hg with hg | hg
    · exact absurd (hs.1 hg L (by omega)) hn
    · obtain ⟨j, hj⟩ : ∃ j : Nat, dst f lost n a = j := ⟨(dst f lost n a).toNat, by omega⟩
      obtain ⟨k1, k2, k3⟩ := hs.2 j hj
      rcases Nat.lt_trichotomy j L with h | h | h
      · exact absurd (un_front.mp (hu (j + 1) (by omega)) a ha) k3
      · rw [hj, h]
      · exact absurd (k2 L h) hn
theorem find_min {p : Int → Bool} {a : Int} : ∀ {l : List Int}, l.Pairwise (· < ·) → l.find? p = some a → ∀ y ∈ l, p y = true → a ≤ y
  | [], _, h, y, hy, _ => nomatch hy
  | b :: r, hp, h, y, hy, hpy => by
    rw [List.find?_cons] at h
    have hp' := List.pairwise_cons.mp hp
    cases hb : p b with
    | true =>
      rw [hb] at h
      cases h
      rcases List.mem_cons.mp hy with rfl | hy
      · exact Int.le_refl _
      · exact Int.le_of_lt (hp'.1 y hy)
    | false =>
      rw [hb] at h
      rcases List.mem_cons.mp hy with rfl | hy
      · rw [hb] at hpy
        cases hpy
      · exact find_min hp'.2 h y hy hpy
theorem sc_asc {A : Ar} {G : List Int} (h : ArG A) (p : Int) : (scF A G p).Pairwise (· < ·) := by
  unfold scF
  split
  · unfold scO
    split
    · rename_i os g h1 h2
      split
      · exact .nil
      · cases h3 : os[g.toNat]? with
        | none => exact .nil
        | some o => exact ((h.2 os (List.mem_of_getElem? h1)).2 o (List.mem_of_getElem? h3)).asc
    · exact .nil
  · exact .nil
/-- the next step of the least row -/
theorem next_pick {f : Int → List Int} {lost : Int → Bool} {n l : Nat} {p : Int} (h : dst f lost n p = ((l + 1 : Nat) : Int)) : ∃ a, (f p).find? (fun a => decide (dst f lost n a = (l : Int))) = some a ∧ dst f lost n a = (l : Int) ∧ a ∈ f p := by
  obtain ⟨h1, h2, h3⟩ := (dst_says f lost n p).2 _ h
  have hi := dst_iff (f := f) (lost := lost) (p := p) h1 h2
  have : ∃ a ∈ f p, dst f lost n a = (l : Int) := Classical.byContradiction fun hno => h3 (un_front.mpr fun a ha => Classical.byContradiction fun hn => hno ⟨a, ha, (hi a ha).mpr hn⟩)
  cases hf : (f p).find? (fun a => decide (dst f lost n a = (l : Int))) with
  | none =>
    obtain ⟨a, ha, e⟩ := this
    have := List.find?_eq_none.mp hf a ha
    rw [decide_eq_true e] at this
    exact absurd rfl this
  | some a => exact ⟨a, rfl, of_decide_eq_true (by simpa using List.find?_some hf), List.mem_of_find?_eq_some hf⟩
section
variable {P : Program} {w : World} {K : PySem.W.Frag} {mg : Str → Option Value} {base : Heap}
/-! ### _law_bad_row -/
def spBadRow : Sp := fun vs H Q _ => ∃ (v : V) (A : Ar) (g dl : Addr) (Kp G : List Int) (st : Int), vs = [v, .ref g, .ref dl, .int st] ∧ ArIn H A v ∧ ArG A ∧ H g = some (.tup (G.map V.int)) ∧ StG A G ∧ H dl = some (.lst ((lsF A.length (dF A G Kp A.length)).map V.int)) ∧ 0 ≤ st ∧ st < A.length ∧
  (dst (scF A G) (lostB A G Kp) A.length st = -1 → Q .non H) ∧ ∀ (L : Nat) p H', dst (scF A G) (lostB A G Kp) A.length st = (L : Int) → Same H H' → H' p = some (.tup ((pickR (scF A G) (dst (scF A G) (lostB A G Kp) A.length) L st).map V.int)) → Q (.ref p) H'
theorem ok_law_bad_row (T : Txt K mg) : FnOk P w K mg base CX0 1 T.a_law_bad_row T.d_law_bad_row P_law_bad_row spBadRow := by
  refine T.F_law_bad_row.ok sc_law_bad_row (fun vs H Q E h => ?_) (fun cdv A outer s H vs Q E hr h => ?_)
  · obtain ⟨v, A, g, dl, Kp, G, st, rfl, _⟩ := h
    rfl
  obtain ⟨v, A0, g, dl, Kp, G, st, rfl, ⟨b0, xs, rfl, e0, hxs⟩, hG, eg, hS, ed, st0, st1, qN, qS⟩ := h
  have h46 := hG.1
  have hmem := (sc_good (G := G) hG).mem
  have hd : ∀ p : Int, 0 ≤ p → dF A0 G Kp A0.length p.toNat = dst (scF A0 G) (lostB A0 G Kp) A0.length p := fun p hp => by
    unfold dF
    rw [show ((p.toNat : Nat) : Int) = p by omega]
  refine ⟨_, (pss_cons (ps_if (pt_cmpR op_lt (pe_ix ix_list (pv 2) (pv 3) (fun _ _ => rfl)) pe_int (nomark _))
    (pss_one (ps_ret pe_non))
    pss_nil)
    (pss_cons (ps_set (i := 4) sc_law_bad_row.nd rfl (Or.inl rfl) (pe_tup pa_nil))
    (pss_cons (ps_set (i := 5) sc_law_bad_row.nd rfl (Or.inl rfl) (pv 3))
    (pss_cons (ps_for  PassesOwn.never rfl (pi_range3 (by rfl) T.z_range (pa_cons (pe_ix ix_list (pv 2) (pv 3) (fun _ _ => rfl)) (pa_cons pe_int (pa_cons (pe_un un_neg pe_int) pa_nil)))) (pg_name (i := 6) sc_law_bad_row.nd rfl (Or.inr rfl))
    (pss_cons (ps_setLc (i := 7) (own := [("reply", 8)]) (g := (gName 8)) (tt := _) rfl sc_law_bad_row.nd rfl rfl (sw_true rfl rfl rfl (by decide +kernel)) (pi_tup (pe_ix ix_tup (pe_ix ix_tup (pv 0) (pv 5) (fun _ _ => rfl)) (pe_ix ix_tup (pv 1) (pv 5) (fun _ _ => rfl)) (fun _ _ => rfl))) (blkOk_by (N := N_law_bad_row) (sc := defScope s_law_bad_row) (by decide +kernel)) (fun _ _ _ _ _ => (pg_name (i := 8) sc_law_bad_row.nd rfl (Or.inl rfl))) (fun _ _ _ _ _ => (pts_one (PW.pt (pw_and (pt_cmpR op_ge (pv 8) pe_int (nomark _)) (pw_and1 (pt_cmpR op_eq (pe_ix (ix_listK (K := K) rfl) (pv 2) (pv 8) (fun _ _ => rfl)) (pe_op op_sub (pv 6) pe_int) (nomark _))))))) (fun _ _ _ _ _ => (pv 8)))
    (C8.pss_cut (ps_if (PW.pt (pw_and (pt_cmpR op_eq (pv 6) pe_int (nomark _)) (pw_and1 (pt_cmpR op_in_seq (pe_un un_neg pe_int) (pe_ix ix_tup (pe_ix ix_tup (pv 0) (pv 5) (fun _ _ => rfl)) (pe_ix ix_tup (pv 1) (pv 5) (fun _ _ => rfl)) (fun _ _ => rfl)) (by rfl)))))
    (pss_one (ps_set (i := 7) sc_law_bad_row.nd rfl (Or.inl rfl) (pe_lst (pa_cons (pe_un un_neg pe_int) pa_nil))))
    pss_nil)
    (pss_cons (ps_set (i := 5) sc_law_bad_row.nd rfl (Or.inl rfl) (pe_callB (cr_min rfl) (by rfl) T.z_min (by decide +kernel) (pa_cons (pv 7) pa_nil)))
    (pss_one (ps_set (i := 4) sc_law_bad_row.nd rfl (Or.inl rfl) (pe_op op_catA (pv 4) (pe_tup (pa_cons (pv 5) pa_nil)))))))))
    (pss_one (ps_ret (pv 4))))))), ?_⟩
  refine ⟨_, rfl, _, rfl, dl, _, _, _, rfl, rfl, sqd ed, lsF_get st0 st1, _, _, rfl, rfl, _, rfl, ?_⟩
  rw [hd st st0]
  have hge := dst_ge (scF A0 G) (lostB A0 G Kp) A0.length st
  generalize hDst : dst (scF A0 G) (lostB A0 G Kp) A0.length = d at qN qS hge hd
  refine ite2 (fun z => ?_) (fun z => ?_)
  · have : d st < 0 := of_decide_eq_true z
    exact qN (by omega)
  have hnn : ¬ d st < 0 := fun h => z (decide_eq_true h)
  obtain ⟨L, hL⟩ : ∃ L : Nat, d st = (L : Int) := ⟨(d st).toNat, by omega⟩
  have hLn : L ≤ A0.length := by omega
  refine ⟨Nat.zero_le _, fun t0 ht0 => ?_⟩
  obtain ⟨H1, e1, s1, k1⟩ := newH ht0 (.tup [])
  rw [e1]
  refine ⟨_, rfl, ?_⟩
  have hget : atI ((lsF A0.length (dF A0 G Kp A0.length)).map V.int) st = some (.int (L : Int)) := by rw [lsF_get st0 st1, hd st st0, hL]
  have hrg : RgC (L : Int) 0 (-1) L := by
    have := RgC.neg (i := (L : Int)) (j := 0) (by omega) (by omega) (by omega) (by omega)
    rw [show ((L : Int) - 0).toNat = L by omega] at this
    exact this
  have hdm : ∀ p, dst (scF A0 G) (lostB A0 G Kp) A0.length p = d p := fun p => by rw [hDst]
  have hneg1 : d (-1) = 0 := by rw [← hdm]; exact dst_lost rfl _
  refine ⟨_, rfl, _, rfl, dl, _, _, _, rfl, rfl, sqd (s1 _ _ ed), hget, _, rfl, _, _, _, L, rfl, hrg, ?_⟩
  refine for_rangeC (lo := (L : Int)) (c := -1) (n := L) (fun (i : Nat) (σ : L2.St) (H' : Hp) => ∃ (t : Addr) (row : List Int) (at_ : Int) (y6 y7 : Option V), σ = [some (.ref b0), some (.ref g), some (.ref dl), some (.int st), some (.ref t), some (.int at_), y6, y7, none] ∧ Same H H' ∧ H' t = some (.tup (row.map V.int)) ∧ row.length ≤ i ∧ -1 ≤ at_ ∧ at_ < A0.length ∧ d at_ = ((L - i : Nat) : Int) ∧ row ++ pickR (scF A0 G) d (L - i) at_ = pickR (scF A0 G) d L st) ?_ ?_ ?_
  · exact ⟨t0, [], st, none, none, rfl, s1, k1, Nat.le_refl 0, by omega, st1, hL, rfl⟩
  · rintro i σ H2 hi ⟨t, row, at_, y6, y7, rfl, s2, kt, hrl, h0, h1, hda, hpick⟩
    obtain ⟨l, hl⟩ : ∃ l, L - i = l + 1 := ⟨L - i - 1, by omega⟩
    rw [hl] at hda hpick
    have hleft : (L : Int) + (i : Nat) * (-1) = (l : Int) + 1 := by omega
    rw [hleft]
    have hda' : dst (scF A0 G) (lostB A0 G Kp) A0.length at_ = ((l + 1 : Nat) : Int) := by rw [hdm]; exact hda
    obtain ⟨a, hfa, hdst, ham⟩ := next_pick hda'
    have hun := un_zero.mp (((dst_says _ _ _ at_).2 _ hda').2.1 0 (Nat.succ_pos l))
    obtain ⟨hq, b1, ws, gi, ta, j1, j2, j3, j4, j5⟩ := find_opt hxs hG hS h0 h1 hun
    have hain := hmem _ a ham
    have hmin := find_min (sc_asc hG at_) hfa
    have hslen := sc_len (G := G) hG at_
    have e02 := s2 _ _ e0
    have eg2 := s2 _ _ eg
    have ed2 := s2 _ _ ed
    have j22 := s2 _ _ j2
    have j52 := s2 _ _ j5
    rw [hdm] at hdst
    refine ⟨_, rfl, _, rfl, b0, _, _, _, rfl, rfl, sqt e02, j1, _, rfl, _, rfl, g, _, _, _, rfl, rfl, sqt eg2, j3, b1, _, _, _, rfl, rfl, sqt j22, j4, ta, rfl, ⟨_, sqt j52⟩, fun D hD => ?_⟩
    refine lc_tup (K := K) (a := ta) (xs := (scF A0 G at_).map V.int) (fun (j : Nat) (H' : Hp) => Same H2 H' ∧ H' D = some (.lst ((((scF A0 G at_).take j).filter fun y => decide (0 ≤ y ∧ d y = (l : Int))).map V.int))) ?_ ?_ ?_ ?_
    · exact ⟨same_new hD _, upd_same⟩
    · rintro j H' _ ⟨s3, _⟩
      exact sqt (s3 _ _ j52)
    · rintro j x H3 hx ⟨s3, e3⟩
      rw [List.getElem?_map] at hx
      obtain ⟨c, hc, rfl⟩ := Option.map_eq_some_iff.mp hx
      have hcm := hmem _ c (List.mem_of_getElem? hc)
      have hstep : ((scF A0 G at_).take (j + 1)).filter (fun y => decide (0 ≤ y ∧ d y = (l : Int))) = ((scF A0 G at_).take j).filter (fun y => decide (0 ≤ y ∧ d y = (l : Int))) ++ (if 0 ≤ c ∧ d c = (l : Int) then [c] else []) := by
        rw [List.take_add_one, hc, List.filter_append]
        by_cases hcc : 0 ≤ c ∧ d c = (l : Int)
        · rw [if_pos hcc]
          simp [hcc]
        · rw [if_neg hcc]
          simp only [Option.toList, List.filter_cons, decide_eq_false hcc, List.filter_nil, Bool.false_eq_true, if_false]
      refine ⟨rfl, ?_⟩
      refine ⟨_, rfl, _, _, rfl, rfl, _, rfl, ?_⟩
      have out : ¬ (0 ≤ c ∧ d c = (l : Int)) → (Same H2 H3 ∧ H3 D = some (.lst ((((scF A0 G at_).take (j + 1)).filter fun y => decide (0 ≤ y ∧ d y = (l : Int))).map V.int))) := fun h => ⟨s3, by rw [hstep, if_neg h, List.append_nil]; exact e3⟩
      by_cases hc0 : c ≥ 0
      · refine ifT (decide_eq_true hc0) ?_
        refine ⟨_, rfl, _, rfl, dl, _, _, _, rfl, rfl, sqd (s3 _ _ ed2), lsF_get hc0 hcm.2, _, rfl, _, _, rfl, rfl, rfl, _, rfl, ?_⟩
        rw [hd c hc0]
        by_cases hdc : d c = (l : Int)
        · refine ifT (decide_eq_true (by rw [hdc]; congr 1; omega)) ?_
          refine ⟨_, rfl, _, e3, big' ?_, same_put s3 hD, ?_⟩
          · have := List.length_filter_le (fun y => decide (0 ≤ y ∧ d y = (l : Int))) ((scF A0 G at_).take j)
            rw [List.length_take] at this
            rw [List.length_map]
            omega
          · rw [upd_same, hstep, if_pos ⟨hc0, hdc⟩, ints_snoc2]
        · refine ifF (decide_eq_false (fun h => hdc (by injection h with h; omega))) ?_
          exact out fun h => hdc h.2
      · refine ifF (decide_eq_false hc0) ?_
        exact out fun h => hc0 h.1
    · rintro H3 ⟨s3, e3⟩
      rw [List.length_map, List.take_length] at e3
      let I : L2.St → Hp → Prop := fun σ H' => ∃ (gl : Addr) (ns : List Int), σ = [some (.ref b0), some (.ref g), some (.ref dl), some (.int st), some (.ref t), some (.int at_), some (.int ((l : Int) + 1)), some (.ref gl), none] ∧ Same H2 H' ∧ H' gl = some (.lst (ns.map V.int)) ∧ a ∈ ns ∧ ∀ y ∈ ns, a ≤ y
      refine ⟨I, ?_, ?_⟩
      · have plain : (a = -1 → False) → ∃ (gl : Addr) (ns : List Int), [some (V.ref b0), some (.ref g), some (.ref dl), some (.int st), some (.ref t), some (.int at_), some (.int ((l : Int) + 1)), some (.ref D), none] = [some (.ref b0), some (.ref g), some (.ref dl), some (.int st), some (.ref t), some (.int at_), some (.int ((l : Int) + 1)), some (.ref gl), none] ∧ Same H2 H3 ∧ H3 gl = some (.lst (ns.map V.int)) ∧ a ∈ ns ∧ ∀ y ∈ ns, a ≤ y := fun hna => by
          refine ⟨D, _, rfl, s3, e3, ?_, fun y hy => ?_⟩
          · exact List.mem_filter.mpr ⟨ham, decide_eq_true ⟨by have := hain.1; have : a ≠ -1 := hna; omega, hdst⟩⟩
          · have := List.mem_filter.mp hy
            refine hmin y this.1 (decide_eq_true ?_)
            rw [hdm]
            exact (of_decide_eq_true this.2).2
        refine ⟨_, rfl, rfl, _, rfl, ?_⟩
        refine ite2 (fun z1 => ?_) (fun z1 => ?_)
        · have hl1 : (l : Int) + 1 = 1 := int_eq z1
          refine ⟨_, rfl, _, rfl, _, rfl, b0, _, _, _, rfl, rfl, sqt (s3 _ _ e02), j1, _, rfl, _, rfl, g, _, _, _, rfl, rfl, sqt (s3 _ _ eg2), j3, b1, _, _, _, rfl, rfl, sqt (s3 _ _ j22), j4, ta, _, rfl, .inr (sqt (s3 _ _ j52)), rfl, flat_ints' _, decide ((-1 : Int) ∈ scF A0 G at_), inT_int, ?_⟩
          by_cases hm1 : (-1 : Int) ∈ scF A0 G at_
          · refine ifT (decide_eq_true hm1) ?_
            refine ⟨_, rfl, Nat.le_of_ble_eq_true rfl, fun gl hgl => ?_⟩
            have ha1 : a ≤ -1 := hmin (-1) hm1 (decide_eq_true (by rw [hdm, hneg1]; omega))
            refine ⟨gl, [-1], rfl, s3.trans (same_new hgl _), upd_same, ?_, fun y hy => ?_⟩
            · have : a = -1 := by have := hain.1; omega
              rw [this]
              exact List.mem_singleton.mpr rfl
            · rw [List.mem_singleton.mp hy]
              exact ha1
          · refine ifF (decide_eq_false hm1) ?_
            exact plain fun h => hm1 (h ▸ ham)
        · have hl1 : (l : Int) + 1 ≠ 1 := int_ne z1
          exact plain fun h => by
            rw [h, hneg1] at hdst
            omega
      rintro σ H4 ⟨gl, ns, rfl, s4, e4, han, hle⟩
      refine ⟨_, rfl, gl, ns, rfl, sqd e4, List.length_pos_of_mem han, fun m hm hmm => ?_⟩
      have hma : m = a := Int.le_antisymm (hmm a han) (hle m hm)
      subst hma
      refine ⟨_, rfl, _, rfl, Nat.le_of_ble_eq_true rfl, fun tm htm => ?_⟩
      obtain ⟨H5, e5, s5, k5⟩ := newH htm (.tup [V.int m])
      rw [e5]
      refine catA_of ((s4.trans s5) _ _ kt) k5 (by rw [List.length_map, List.length_singleton]; omega) fun p6 H6 s6 k6 => ?_
      refine ⟨p6, row ++ [m], m, _, _, rfl, s2.trans ((s4.trans s5).trans s6), by rw [k6, ints_snoc2], by rw [List.length_append]; exact Nat.add_le_add_right hrl 1, hain.1, hain.2, ?_, ?_⟩
      · rw [hdst]
        congr 1
        omega
      · rw [← hpick, show L - (i + 1) = l by omega, List.append_assoc]
        congr 1
        show m :: pickR (scF A0 G) d l m = pickR (scF A0 G) d (l + 1) at_
        rw [show pickR (scF A0 G) d (l + 1) at_ = (match (scF A0 G at_).find? fun a => decide (d a = (l : Int)) with
          | none => []
          | some a => a :: pickR (scF A0 G) d l a) from rfl]
        rw [hDst] at hfa
        rw [hfa]
  · rintro σ H2 ⟨t, row, at_, y6, y7, rfl, s2, kt, hrl, h0, h1, hda, hpick⟩
    rw [Nat.sub_self, show pickR (scF A0 G) d 0 at_ = [] from rfl, List.append_nil] at hpick
    rw [hpick] at kt
    exact ⟨_, rfl, qS L t H2 hL s2 kt⟩
end
end NL

namespace NL
open PySem PySem.Spec PyProof.Rows L2
/-! ### two answers that are the same -/
def Alk : Nat → Hp → V → V → Prop
  | 0, _, _, _ => False
  | n + 1, H, u, v => (u = .non ∧ v = .non) ∨ (∃ s, u = .str s ∧ v = .str s) ∨ (∃ i, u = .int i ∧ v = .int i) ∨ ∃ a b xs ys, u = .ref a ∧ v = .ref b ∧ H a = some (.tup xs) ∧ H b = some (.tup ys) ∧ xs.length = ys.length ∧ ys.length ≤ 1000000 ∧
      ∀ (k : Nat) x y, xs[k]? = some x → ys[k]? = some y → Alk n H x y
theorem Alk.ints {H : Hp} {a b : Addr} {l : List Int} (ha : H a = some (.tup (l.map V.int))) (hb : H b = some (.tup (l.map V.int))) (hl : l.length ≤ 1000000) : Alk 2 H (.ref a) (.ref b) := by
  refine .inr (.inr (.inr ⟨a, b, _, _, rfl, rfl, ha, hb, rfl, by rw [List.length_map]; exact hl, fun k x y hx hy => ?_⟩))
  rw [hx] at hy
  cases hy
  rw [List.getElem?_map] at hx
  obtain ⟨i, _, rfl⟩ := Option.map_eq_some_iff.mp hx
  exact .inr (.inr (.inl ⟨i, rfl, rfl⟩))
section
variable {P : Program} {w : World} {K : PySem.W.Frag} {mg : Str → Option Value} {base : Heap}
def spSame (n : Nat) : Sp := fun vs H Q _ => ∃ u v : V, vs = [u, v] ∧ Alk n H u v ∧ Q (.bl true) H
theorem ok_law_same (T : Txt K mg) : ∀ n : Nat, FnOk P w K mg base CX0 (n + 1) T.a_law_same T.d_law_same P_law_same (spSame n)
  | 0 => by
    have no : ∀ vs H Q E, ¬ spSame 0 vs H Q E := fun vs H Q E ⟨u, v, _, h, _⟩ => h
    exact ⟨fun vs H Q E h => absurd h (no vs H Q E), fun A outer s H args us vs Q E _ _ _ _ h => absurd h (no vs H Q E)⟩
  | n + 1 => by
    have G_law_same := ok_law_same T n
    refine T.F_law_same.ok sc_law_same (fun vs H Q E h => ?_) (fun cdv A outer s H vs Q E hr h => ?_)
    · obtain ⟨u, v, rfl, _⟩ := h
      rfl
    obtain ⟨u, v, rfl, h, q⟩ := h
    refine ⟨_, (pss_cons (ps_if (pt_cmpR op_isN (pv 1) pe_non (nomark _))
    (pss_one (ps_ret (pe_cmpR op_isN (pv 0) pe_non (nomark _))))
    pss_nil)
    (pss_cons (ps_if (pt_val (pe_callB (call_isi) (by rfl) T.z_isinstance (by decide +kernel) (pa_cons (pv 1) (pa_cons (pe_bltn (v := .ty "str") (u := .type "str") (by rfl) T.z_str (by decide +kernel) rfl) pa_nil))))
    (pss_one (ps_ret (pe_and (pe_callB (call_isi) (by rfl) T.z_isinstance (by decide +kernel) (pa_cons (pv 0) (pa_cons (pe_bltn (v := .ty "str") (u := .type "str") (by rfl) T.z_str (by decide +kernel) rfl) pa_nil))) (pe_one (pe_cmpR op_eq (pv 0) (pv 1) (nomark _))))))
    pss_nil)
    (pss_cons (ps_if (pt_val (pe_callB (call_isi) (by rfl) T.z_isinstance (by decide +kernel) (pa_cons (pv 1) (pa_cons (pe_bltn (v := .ty "int") (u := .type "int") (by rfl) T.z_int (by decide +kernel) rfl) pa_nil))))
    (pss_one (ps_ret (pe_and (pe_callB (call_isi) (by rfl) T.z_isinstance (by decide +kernel) (pa_cons (pv 0) (pa_cons (pe_bltn (v := .ty "int") (u := .type "int") (by rfl) T.z_int (by decide +kernel) rfl) pa_nil))) (pe_and (pe_not (pe_callB (call_isi) (by rfl) T.z_isinstance (by decide +kernel) (pa_cons (pv 0) (pa_cons (pe_bltn (v := .ty "bool") (u := .type "bool") (by rfl) T.z_bool (by decide +kernel) rfl) pa_nil)))) (pe_one (pe_cmpR op_eq (pv 0) (pv 1) (nomark _)))))))
    pss_nil)
    (pss_cons (ps_if (PW.pt (pw_or (pt_not (pt_val (pe_callB (call_isi) (by rfl) T.z_isinstance (by decide +kernel) (pa_cons (pv 0) (pa_cons (pe_bltn (v := .ty "tuple") (u := .type "tuple") (by rfl) T.z_tuple (by decide +kernel) rfl) pa_nil))))) (pw_or1 (pt_cmpR op_ne (pe_callB call_len_seq (by rfl) T.z_len PySem.boot_len (pa_cons (pv 0) pa_nil)) (pe_callB call_len_seq (by rfl) T.z_len PySem.boot_len (pa_cons (pv 1) pa_nil)) (nomark _)))))
    (pss_one (ps_ret pe_bl))
    pss_nil)
    (pss_cons (ps_for  PassesOwn.never rfl (pi_range1 (by rfl) T.z_range (pa_cons (pe_callB call_len_seq (by rfl) T.z_len PySem.boot_len (pa_cons (pv 1) pa_nil)) pa_nil)) (pg_name (i := 2) sc_law_same.nd rfl (Or.inl rfl))
    (pss_one (ps_if (pt_not (pt_val (pe_call G_law_same (hr.mono (by omega)) (by rfl) T.m_law_same T.F_law_same.kp T.b_law_same .nil pass0 (pa_cons (pe_ix ix_tup (pv 0) (pv 2) (fun _ _ => rfl)) (pa_cons (pe_ix ix_tup (pv 1) (pv 2) (fun _ _ => rfl)) pa_nil)))))
    (pss_one (ps_ret pe_bl))
    pss_nil)))
    (pss_one (ps_ret pe_bl))))))), ?_⟩
    refine ⟨_, rfl, rfl, _, rfl, ?_⟩
    rcases h with ⟨rfl, rfl⟩ | ⟨s, rfl, rfl⟩ | ⟨i, rfl, rfl⟩ | ⟨a, b, xs, ys, rfl, rfl, ea, eb, hl, hz, hall⟩
    · exact ifT (decide_eq_true rfl) ⟨_, rfl, rfl, boolE (decide_eq_true rfl) q⟩
    · refine ifF (decide_eq_false (fun e => nomatch e)) ?_
      refine ⟨_, rfl, _, _, .type "str", .type "str", true, rfl, .ty "str", .base (.str _), kit_ty (by decide +kernel), true, rfl, ?_⟩
      refine iteT ⟨_, rfl, _, _, .type "str", .type "str", true, rfl, .ty "str", .base (.str _), kit_ty (by decide +kernel), true, rfl, ?_⟩
      exact iteT ⟨_, rfl, _, rfl, rfl, boolE (decide_eq_true rfl) q⟩
    · refine ifF (decide_eq_false (fun e => nomatch e)) ?_
      refine ⟨_, rfl, _, _, .type "int", .type "str", false, rfl, .ty "str", .base (.int _), kit_ty (by decide +kernel), false, rfl, ?_⟩
      refine iteF ⟨_, rfl, _, _, .type "int", .type "int", true, rfl, .ty "int", .base (.int _), kit_ty (by decide +kernel), true, rfl, ?_⟩
      refine iteT ⟨_, rfl, _, _, .type "int", .type "int", true, rfl, .ty "int", .base (.int _), kit_ty (by decide +kernel), true, rfl, ?_⟩
      refine iteT ⟨_, rfl, _, _, .type "int", .type "bool", false, rfl, .ty "bool", .base (.int _), kit_ty (by decide +kernel), false, rfl, true, rfl, ?_⟩
      exact iteT ⟨_, rfl, _, rfl, rfl, boolE (decide_eq_true rfl) q⟩
    · refine ifF (decide_eq_false (fun e => nomatch e)) ?_
      refine ⟨_, rfl, _, _, .type "tuple", .type "str", false, rfl, .ty "str", .base (.tup eb), kit_ty (by decide +kernel), false, rfl, ?_⟩
      refine iteF ⟨_, rfl, _, _, .type "tuple", .type "int", false, rfl, .ty "int", .base (.tup eb), kit_ty (by decide +kernel), false, rfl, ?_⟩
      refine iteF ⟨_, rfl, _, _, .type "tuple", .type "tuple", true, rfl, .ty "tuple", .base (.tup ea), kit_ty (by decide +kernel), true, rfl, ?_⟩
      refine iteF ?_
      refine ⟨_, rfl, a, _, rfl, .inr (sqt ea), _, rfl, b, _, rfl, .inr (sqt eb), rfl, _, rfl, ?_⟩
      refine ifF (by rw [hl, decide_eq_true rfl] <;> rfl) ?_
      refine ⟨_, rfl, b, _, rfl, .inr (sqt eb), _, rfl, by omega, by omega, for_range (lo := 0) (n := ys.length) (fun j σ H' => ∃ y : Option V, σ = [some (.ref a), some (.ref b), y] ∧ H' = H) ?_ ?_ ?_⟩
      · exact ⟨none, rfl, rfl⟩
      · rintro j σ H' hj ⟨y, rfl, rfl⟩
        have hjx : xs[j]? = some xs[j] := List.getElem?_eq_getElem (by omega)
        have hjy : ys[j]? = some ys[j] := List.getElem?_eq_getElem hj
        have e0 : (0 : Int) + (j : Int) = (j : Int) := Int.zero_add _
        refine ⟨_, rfl, _, rfl, a, _, _, _, rfl, rfl, sqt ea, by rw [e0]; exact atI_nat hjx, _, rfl, _, rfl, b, _, _, _, rfl, rfl, sqt eb, by rw [e0]; exact atI_nat hjy, ?_⟩
        refine ⟨_, _, rfl, hall j _ _ hjx hjy, true, rfl, ?_⟩
        exact iteF ⟨_, rfl, rfl⟩
      · rintro σ H' ⟨y, rfl, rfl⟩
        exact q
end
end NL

namespace NL
open PySem PySem.Spec PyProof.Rows L2
def spLaw (K : PySem.W.Frag) : Sp := fun vs H Q _ => ∃ (a : Addr) (ns : List Int), vs = [.ref a] ∧ SqL K H a (ns.map V.int) ∧ ns.length ≤ 63 ∧ ∀ H', Q (.bl true) H'
theorem least_un {lost : Int → Bool} {f : Int → List Int} {st : Int} : ∀ n, ¬ (∀ l, l ≤ n → unlost lost f st l) → ∃ L, L ≤ n ∧ (∀ l, l < L → unlost lost f st l) ∧ ¬ unlost lost f st L
  | 0, h => ⟨0, Nat.le_refl 0, fun l hl => absurd hl (Nat.not_lt_zero l), fun h0 => h fun l hl => by
      have : l = 0 := by omega
      rw [this]
      exact h0⟩
  | n + 1, h => by
    by_cases hn : ∀ l, l ≤ n → unlost lost f st l
    · refine ⟨n + 1, Nat.le_refl _, fun l hl => hn l (by omega), fun h0 => h fun l hl => ?_⟩
      rcases Nat.lt_or_ge l (n + 1) with hl' | hl'
      · exact hn l (by omega)
      · have : l = n + 1 := by omega
        rw [this]
        exact h0
    · obtain ⟨L, hL, h1, h2⟩ := least_un n hn
      exact ⟨L, by omega, h1, h2⟩
/-- what is due -/
def Told (H : Hp) (f : Int → List Int) (lost : Int → Bool) (st : Int) (n : Nat) (u : V) : Prop :=
  (u = .non ∧ ∀ l, l ≤ n → unlost lost f st l) ∨ ∃ L q p, L ≤ n ∧ (∀ l, l < L → unlost lost f st l) ∧ ((rowsL f st L).find? fun e => lost e.2) = some q ∧ u = .ref p ∧ H p = some (.tup (q.1.map V.int))
theorem told_of {H : Hp} {A : Ar} {G Kp : List Int} {st : Int} {R : List Ent} {u : V} (hG : ArG A) (st0 : 0 ≤ st) (st1 : st < A.length) (hE : Ended (scF A G) st R) (h : DueIn H (ansE (lostB A G Kp) R) u) : Told H (scF A G) (lostB A G Kp) st A.length u := by
  by_cases hall : ∀ l, l ≤ A.length → unlost (lostB A G Kp) (scF A G) st l
  · have := hE.miss (lost := lostB A G Kp) (n := A.length) ⟨by omega, st1⟩ (sc_good hG).mem rfl hall
    rw [this] at h
    exact .inl ⟨h, hall⟩
  · obtain ⟨L, hL, h1, h2⟩ := least_un _ hall
    cases hf : (rowsL (scF A G) st L).find? fun e => lostB A G Kp e.2 with
    | none =>
      refine absurd (fun e he => ?_) h2
      have := List.find?_eq_none.mp hf e he
      simpa using this
    | some q =>
      have := hE.hit (lost := lostB A G Kp) h1 hf
      rw [this] at h
      obtain ⟨p, hu, hp⟩ := h
      exact .inr ⟨L, q, p, hL, h1, hf, hu, hp⟩
theorem pickR_len (f : Int → List Int) (d : Int → Int) : ∀ (L : Nat) (p : Int), (pickR f d L p).length ≤ L
  | 0, p => Nat.le_refl 0
  | L + 1, p => by
    unfold pickR
    split
    · exact Nat.zero_le _
    · exact Nat.succ_le_succ (pickR_len f d L _)
theorem told_alk {H : Hp} {f : Int → List Int} {lost : Int → Bool} {st : Int} {n L : Nat} {u : V} {p : Addr} (h : Told H f lost st n u) (hL : dst f lost n st = (L : Int)) (hn : n ≤ 46) (hp : H p = some (.tup ((pickR f (dst f lost n) L st).map V.int))) : Alk 2 H u (.ref p) := by
  obtain ⟨h1, h2, h3⟩ := (dst_says f lost n st).2 L hL
  rcases h with ⟨_, hall⟩ | ⟨L', q, p', hL', hu, hf, rfl, ep⟩
  · exact absurd (hall L h1) h3
  · have hne : ¬ unlost lost f st L' := fun h => by
      have := h q (List.mem_of_find?_eq_some hf)
      have h5 : lost q.2 = true := by simpa using List.find?_some hf
      rw [h5] at this
      cases this
    have : L' = L := by
      rcases Nat.lt_trichotomy L' L with h | h | h
      · exact absurd (h2 L' h) hne
      · exact h
      · exact absurd (hu L h) h3
    subst this
    rw [pick_row (n := n) L' st q hL' hu hf] at ep
    exact Alk.ints ep hp (Nat.le_trans (pickR_len _ _ _ _) (by omega))
theorem told_non {H : Hp} {f : Int → List Int} {lost : Int → Bool} {st : Int} {n : Nat} {u : V} (h : Told H f lost st n u) (hL : dst f lost n st = -1) : Alk 2 H u .non := by
  rcases h with ⟨rfl, _⟩ | ⟨L', q, p', hL', hu, hf, rfl, ep⟩
  · exact .inl ⟨rfl, rfl⟩
  · have := (dst_says f lost n st).1 hL L' hL' q (List.mem_of_find?_eq_some hf)
    have h5 : lost q.2 = true := by simpa using List.find?_some hf
    rw [h5] at this
    cases this
section
variable {P : Program} {w : World} {K : PySem.W.Frag} {mg : Str → Option Value} {base : Heap}
theorem ok_law (T : Txt K mg) : FnOk P w K mg base CX0 5 T.alaw T.dlaw Plaw (spLaw K) := by
  have G_law_draws := ok_law_draws (P := P) (w := w) (base := base) T
  have G_law_take := ok_law_take (P := P) (w := w) (base := base) T
  have G_law_arena := ok_law_arena (P := P) (w := w) (base := base) T
  have G_law_some := ok_law_some (P := P) (w := w) (base := base) T
  have G_law_strategy := ok_law_strategy (P := P) (w := w) (base := base) T
  have G_law_distances := ok_law_distances (P := P) (w := w) (base := base) T
  have G_law_bad_row := ok_law_bad_row (P := P) (w := w) (base := base) T
  have G_law_same := ok_law_same (P := P) (w := w) (base := base) T 2
  have Gleast_bad_row := ok_least_bad_row (P := P) (w := w) (base := base) T
  refine T.Flaw.ok sclaw (fun vs H Q E h => ?_) (fun cdv A outer s H vs Q E hr h => ?_)
  · obtain ⟨a, ns, rfl, _⟩ := h
    rfl
  obtain ⟨a, ns, rfl, hSq, hl, q⟩ := h
  refine ⟨_, (pss_cons (ps_set (i := 1) sclaw.nd rfl (Or.inl rfl) (pe_call G_law_draws (hr.mono (by omega)) (by rfl) T.m_law_draws T.F_law_draws.kp T.b_law_draws .nil pass0 (pa_cons (pv 0) (pa_cons pe_int pa_nil))))
    (pss_cons (ps_set (i := 2) sclaw.nd rfl (Or.inl rfl) (pe_call G_law_arena (hr.mono (by omega)) (by rfl) T.m_law_arena T.F_law_arena.kp T.b_law_arena .nil pass0 (pa_cons (pv 1) (pa_cons pe_int pa_nil))))
    (pss_cons (ps_set (i := 3) sclaw.nd rfl (Or.inl rfl) (pe_call G_law_some (hr.mono (by omega)) (by rfl) T.m_law_some T.F_law_some.kp T.b_law_some .nil pass0 (pa_cons (pv 1) (pa_cons (pv 2) (pa_cons pe_int pa_nil)))))
    (pss_cons (ps_set (i := 4) sclaw.nd rfl (Or.inl rfl) (pe_lst (pa_cons (pe_call G_law_strategy (hr.mono (by omega)) (by rfl) T.m_law_strategy T.F_law_strategy.kp T.b_law_strategy .nil pass0 (pa_cons (pv 1) (pa_cons (pv 2) pa_nil))) (pa_cons (pe_call G_law_strategy (hr.mono (by omega)) (by rfl) T.m_law_strategy T.F_law_strategy.kp T.b_law_strategy .nil pass0 (pa_cons (pv 1) (pa_cons (pv 2) pa_nil))) pa_nil))))
    (pss_cons (ps_set (i := 5) sclaw.nd rfl (Or.inl rfl) (pe_tupRg rfl (by rfl) T.z_tuple (prg_1 (by rfl) T.z_range (pe_callB call_len_seq (by rfl) T.z_len PySem.boot_len (pa_cons (pv 2) pa_nil)))))
    (pss_cons (ps_for  PassesOwn.never rfl (pi_list (pe_lst (pa_cons (pe_tup (pa_cons (pv 3) (pa_cons (pe_ix ix_list (pv 4) pe_int (fun _ _ => rfl)) pa_nil))) (pa_cons (pe_tup (pa_cons (pv 3) (pa_cons (pe_ix ix_list (pv 4) pe_int (fun _ _ => rfl)) pa_nil))) (pa_cons (pe_tup (pa_cons (pv 5) (pa_cons (pe_ix ix_list (pv 4) pe_int (fun _ _ => rfl)) pa_nil))) pa_nil))))) (pg_name (i := 6) sclaw.nd rfl (Or.inl rfl))
    (pss_cons (ps_set (i := 7) sclaw.nd rfl (Or.inl rfl) (pe_call G_law_distances (hr.mono (by omega)) (by rfl) T.m_law_distances T.F_law_distances.kp T.b_law_distances .nil pass0 (pa_cons (pv 2) (pa_cons (pe_ix ix_tup (pv 6) pe_int (fun _ _ => rfl)) (pa_cons (pe_ix ix_tup (pv 6) pe_int (fun _ _ => rfl)) pa_nil)))))
    (pss_cons (ps_set (i := 8) sclaw.nd rfl (Or.inl rfl) (pe_ix ix_list (pe_lst (pa_cons (pe_callB (call_min2 rfl) (by rfl) T.z_min (by decide +kernel) (pa_cons pe_int (pa_cons (pe_callB call_len_seq (by rfl) T.z_len PySem.boot_len (pa_cons (pv 2) pa_nil)) pa_nil))) (pa_cons pe_int pa_nil))) (pe_callTy call_int1 (by rfl) T.z_int (by decide +kernel) (pa_cons (pe_cmpR op_gt (pe_callB call_len_seq (by rfl) T.z_len PySem.boot_len (pa_cons (pv 2) pa_nil)) pe_int (nomark _)) pa_nil)) (fun _ _ => rfl)))
    (pss_one (ps_for  PassesOwn.never rfl (pi_range1 (by rfl) T.z_range (pa_cons (pv 8) pa_nil)) (pg_name (i := 9) sclaw.nd rfl (Or.inl rfl))
    (pss_cons (ps_set (i := 10) sclaw.nd rfl (Or.inl rfl) (pe_op op_fdiv (pe_op op_mul (pv 9) (pe_callB call_len_seq (by rfl) T.z_len PySem.boot_len (pa_cons (pv 2) pa_nil))) (pv 8)))
    (pss_cons (ps_set (i := 11) sclaw.nd rfl (Or.inl rfl) (pe_call G_law_bad_row (hr.mono (by omega)) (by rfl) T.m_law_bad_row T.F_law_bad_row.kp T.b_law_bad_row .nil pass0 (pa_cons (pv 2) (pa_cons (pe_ix ix_tup (pv 6) pe_int (fun _ _ => rfl)) (pa_cons (pv 7) (pa_cons (pv 10) pa_nil))))))
    (pss_one (ps_if (pt_not (pt_val (pe_call G_law_same (hr.mono (by omega)) (by rfl) T.m_law_same T.F_law_same.kp T.b_law_same .nil pass0 (pa_cons (pe_call Gleast_bad_row (hr.mono (by omega)) (by rfl) T.mleast_bad_row T.Fleast_bad_row.kp T.bleast_bad_row .nil pass0 (pa_cons (pv 2) (pa_cons (pe_ix ix_tup (pv 6) pe_int (fun _ _ => rfl)) (pa_cons (pe_ix ix_tup (pv 6) pe_int (fun _ _ => rfl)) (pa_cons (pv 10) pa_nil))))) (pa_cons (pv 11) pa_nil)))))
    (pss_one (ps_ret pe_bl))
    pss_nil)))))))))
    (pss_cons (ps_for  PassesOwn.never rfl (pi_range1 (by rfl) T.z_range (pa_cons (pe_callB (call_min2 rfl) (by rfl) T.z_min (by decide +kernel) (pa_cons pe_int (pa_cons (pe_callB call_len_seq (by rfl) T.z_len PySem.boot_len (pa_cons (pv 2) pa_nil)) pa_nil))) pa_nil)) (pg_name (i := 10) sclaw.nd rfl (Or.inl rfl))
    (pss_one (ps_if (pt_not (pt_val (pe_call G_law_same (hr.mono (by omega)) (by rfl) T.m_law_same T.F_law_same.kp T.b_law_same .nil pass0 (pa_cons (pe_call Gleast_bad_row (hr.mono (by omega)) (by rfl) T.mleast_bad_row T.Fleast_bad_row.kp T.bleast_bad_row .nil pass0 (pa_cons (pv 2) (pa_cons (pe_tup pa_nil) (pa_cons (pe_ix ix_list (pv 4) pe_int (fun _ _ => rfl)) (pa_cons (pv 10) pa_nil))))) (pa_cons (pe_tup pa_nil) pa_nil)))))
    (pss_one (ps_ret pe_bl))
    pss_nil)))
    (pss_one (ps_ret pe_bl))))))))), ?_⟩
  refine ⟨_, rfl, a, ns, 200, rfl, hSq, hl, by decide, by decide, fun d H1 s1 hd D1 => ?_⟩
  refine ⟨_, rfl, d, 8, rfl, D1, by decide, by decide, fun v A0 H2 g2 hA hG => ?_⟩
  obtain ⟨b0, xs, rfl, e0, hxs⟩ := id hA
  have hxl := hxs.1
  have h46 := hG.1
  refine ⟨_, rfl, _, rfl, d, _, A0, 7, rfl, g2.dr, hA, h46, fun kp Kp H3 g3 ek => ?_⟩
  have hA3 := hA.tp (g3.tp g2.dr)
  refine ⟨_, rfl, _, rfl, d, _, A0, rfl, g3.dr, hA3, h46, fun ga G0 H4 g4 eg0 hS0 => ?_⟩
  have hA4 := hA3.tp (g4.tp g3.dr)
  refine ⟨_, rfl, _, rfl, d, _, A0, rfl, g4.dr, hA4, h46, fun gb G1 H5 g5 eg1 hS1 => ?_⟩
  have hA5 := hA4.tp (g5.tp g4.dr)
  have ek5 := g5.tp g4.dr _ _ (g4.tp g3.dr _ _ ek)
  have eg05 := g5.tp g4.dr _ _ eg0
  have e05 := g5.tp g4.dr _ _ (g4.tp g3.dr _ _ (g3.tp g2.dr _ _ e0))
  refine ⟨Nat.le_of_ble_eq_true rfl, fun sl hsl => ?_⟩
  obtain ⟨H6, e6, s6, k6⟩ := newH hsl (.lst [V.ref ga, V.ref gb])
  rw [e6]
  refine ⟨_, rfl, b0, _, rfl, .inr (sqt (s6 _ _ e05)), _, rfl, ⟨by omega, by omega, by omega, by omega, by omega⟩, fun wh hwh => ?_⟩
  rw [rg_ints]
  generalize (List.range (((xs.length : Nat) : Int) - 0).toNat).map (fun i : Nat => (0 : Int) + (i : Int)) = Wh
  obtain ⟨H7, e7, s7, k7⟩ := newH hwh (.tup (Wh.map V.int))
  rw [e7]
  have s57 := s6.trans s7
  have k67 := s7 _ _ k6
  refine ⟨_, rfl, _, rfl, sl, _, _, _, rfl, rfl, sqd k67, atI0, Nat.le_of_ble_eq_true rfl, fun c0 hc0 => ?_⟩
  obtain ⟨Ha, ea, sa, ka⟩ := newH hc0 (.tup [V.ref kp, V.ref ga])
  rw [ea]
  refine ⟨_, rfl, _, rfl, sl, _, _, _, rfl, rfl, sqd (sa _ _ k67), atI1, Nat.le_of_ble_eq_true rfl, fun c1 hc1 => ?_⟩
  obtain ⟨Hb, eb, sb, kb⟩ := newH hc1 (.tup [V.ref kp, V.ref gb])
  rw [eb]
  refine ⟨_, rfl, _, rfl, sl, _, _, _, rfl, rfl, sqd ((sa.trans sb) _ _ k67), atI0, Nat.le_of_ble_eq_true rfl, fun c2 hc2 => ?_⟩
  obtain ⟨Hc, ec, sc, kc⟩ := newH hc2 (.tup [V.ref wh, V.ref ga])
  rw [ec]
  refine ⟨Nat.le_of_ble_eq_true rfl, fun cl hcl => ?_⟩
  obtain ⟨Hd, ed, sd, kd⟩ := newH hcl (.lst [V.ref c0, V.ref c1, V.ref c2])
  rw [ed]
  have s7d := ((sa.trans sb).trans sc).trans sd
  have s5d := s57.trans s7d
  have hAd := hA5.tp (SameTp s5d)
  have e0d := s5d _ _ e05
  have ksl := s7d _ _ k67
  have eg1d := s5d _ _ eg1
  have cases3 : ∀ (i : Nat) x, [V.ref c0, V.ref c1, V.ref c2][i]? = some x → ∃ (c kq gq : Addr) (Kq Gq : List Int), x = V.ref c ∧ Hd c = some (.tup [V.ref kq, V.ref gq]) ∧ Hd kq = some (.tup (Kq.map V.int)) ∧ Hd gq = some (.tup (Gq.map V.int)) ∧ StG A0 Gq := fun i x hx => by
    match i, hx with
    | 0, hx =>
      have : V.ref c0 = x := by simpa using hx
      exact ⟨c0, kp, ga, Kp, G0, this.symm, ((sb.trans sc).trans sd) _ _ ka, s5d _ _ ek5, s5d _ _ eg05, hS0⟩
    | 1, hx =>
      have : V.ref c1 = x := by simpa using hx
      exact ⟨c1, kp, gb, Kp, G1, this.symm, (sc.trans sd) _ _ kb, s5d _ _ ek5, eg1d, hS1⟩
    | 2, hx =>
      have : V.ref c2 = x := by simpa using hx
      exact ⟨c2, wh, ga, Wh, G0, this.symm, sd _ _ kc, s7d _ _ k7, s5d _ _ eg05, hS0⟩
    | i + 3, hx => simp at hx
  refine ⟨cl, rfl, ⟨_, sqd kd⟩, ?_⟩
  refine for_list (K := K) (a := cl) (xs := [V.ref c0, V.ref c1, V.ref c2]) (fun (i : Nat) (σ : L2.St) (H' : Hp) => ∃ y6 y7 y8 y9 y10 y11 : Option V, σ = [some (.ref a), some (.ref d), some (.ref b0), some (.ref kp), some (.ref sl), some (.ref wh), y6, y7, y8, y9, y10, y11] ∧ Same Hd H') ?_ ?_ ?_ ?_
  · exact ⟨_, _, _, _, _, _, rfl, Same.refl _⟩
  · rintro i σ H' _ ⟨y6, y7, y8, y9, y10, y11, rfl, s8⟩
    exact sqd (s8 _ _ kd)
  · rintro i x σ H8 hx ⟨y6, y7, y8, y9, y10, y11, rfl, s8⟩
    obtain ⟨c, kq, gq, Kq, Gq, rfl, ec', ekq, egq, hSq'⟩ := cases3 i x hx
    have ec8 := s8 _ _ ec'
    refine ⟨_, rfl, _, rfl, c, _, _, _, rfl, rfl, sqt ec8, atI0, _, rfl, c, _, _, _, rfl, rfl, sqt ec8, atI1, _, A0, kq, gq, Kq, Gq, rfl, hAd.tp (SameTp s8), hG, s8 _ _ ekq, s8 _ _ egq, hSq', fun dl H9 s9 edl => ?_⟩
    have s89 := s8.trans s9
    refine ⟨_, rfl, b0, _, rfl, .inr (sqt (s89 _ _ e0d)), _, _, rfl, Nat.le_of_ble_eq_true rfl, fun ml hml => ?_⟩
    obtain ⟨mn, hmn⟩ : ∃ mn : Int, (if ((xs.length : Nat) : Int) < 9 then ((xs.length : Nat) : Int) else 9) = mn := ⟨_, rfl⟩
    have hmn2 : mn ≤ 9 ∧ mn ≤ A0.length ∧ 0 ≤ mn := by
      split at hmn <;> omega
    obtain ⟨m, hm, hm9, hmA, hm0⟩ : ∃ m : Int, atI [V.int mn, V.int 4] (if decide (((xs.length : Nat) : Int) > 9) = true then 1 else 0) = some (V.int m) ∧ m ≤ 9 ∧ m ≤ A0.length ∧ 0 ≤ m := by
      by_cases h9 : ((xs.length : Nat) : Int) > 9
      · rw [decide_eq_true h9, if_pos rfl]
        exact ⟨4, atI1, by omega, by omega, by omega⟩
      · rw [decide_eq_false h9, if_neg Bool.false_ne_true]
        exact ⟨mn, atI0, hmn2.1, hmn2.2.1, hmn2.2.2⟩
    dsimp only at hml ⊢
    rw [hmn]
    obtain ⟨Hm, em, sm, km⟩ := newH hml (.lst [V.int mn, V.int 4])
    rw [em]
    have s8m := s89.trans sm
    have s9m := sm
    have edl' := sm _ _ edl
    refine ⟨_, rfl, b0, _, rfl, .inr (sqt (s8m _ _ e0d)), _, _, rfl, rfl, .inr ⟨_, rfl, ?_⟩⟩
    refine ⟨ml, _, _, _, rfl, rfl, sqd km, hm, ?_⟩
    refine ⟨_, rfl, m, rfl, by omega, by omega, ?_⟩
    refine for_range (lo := 0) (n := m.toNat) (fun (j : Nat) (σ : L2.St) (H' : Hp) => ∃ y9 y10 y11 : Option V, σ = [some (.ref a), some (.ref d), some (.ref b0), some (.ref kp), some (.ref sl), some (.ref wh), some (.ref c), some (.ref dl), some (.int m), y9, y10, y11] ∧ Same Hm H') ?_ ?_ ?_
    · exact ⟨_, _, _, rfl, Same.refl _⟩
    · rintro j σ Hn hj ⟨y9, y10, y11, rfl, sn⟩
      generalize hk : (0 : Int) + (j : Int) = k
      have hk0 : 0 ≤ k ∧ k < m := by omega
      have hmp : 0 < m := by omega
      have hnp : (0 : Int) < A0.length := by omega
      have hmul : k * (A0.length : Int) < m * (A0.length : Int) := Int.mul_lt_mul_of_pos_right hk0.2 hnp
      have st0 : 0 ≤ k * (A0.length : Int) / m := Int.ediv_nonneg (Int.mul_nonneg hk0.1 (Int.le_of_lt hnp)) (Int.le_of_lt hmp)
      have st1 : k * (A0.length : Int) / m < A0.length := by
        refine Int.ediv_lt_of_lt_mul hmp ?_
        rw [Int.mul_comm (A0.length : Int) m]
        exact hmul
      have s8n := s8m.trans sn
      refine ⟨_, rfl, _, rfl, b0, _, rfl, .inr (sqt (s8n _ _ e0d)), _, _, rfl, rfl, .inl ⟨by omega, by omega⟩, _, rfl, _, _, rfl, rfl, ⟨by omega, by omega⟩, ?_⟩
      dsimp only
      rw [hxl]
      generalize hstt : k * (A0.length : Int) / m = st at st0 st1 ⊢
      have ecn := (s9.trans (sm.trans sn)) _ _ ec8
      have hAn := hAd.tp (SameTp s8n)
      -- least_bad_row and what is due are the same
      refine ⟨_, rfl, _, rfl, c, _, _, _, rfl, rfl, sqt ecn, atI1, _, rfl, _, rfl, _, A0, gq, dl, Kq, Gq, st, rfl, hAn, hG, s8n _ _ egq, hSq', sn _ _ edl', st0, st1, fun hneg => ?_, fun L p Ho hLd so ep => ?_⟩
      · refine ⟨_, rfl, _, rfl, c, _, _, _, rfl, rfl, sqt ecn, atI0, _, rfl, c, _, _, _, rfl, rfl, sqt ecn, atI1, _, rfl, _, A0, kq, gq, Kq, Gq, st, rfl, hAn, hG, s8n _ _ ekq, s8n _ _ egq, hSq', st0, st1, fun R u Hp' sp hE hdue => ?_⟩
        have hT := told_of hG st0 st1 hE hdue
        refine ⟨_, rfl, _, _, rfl, told_non hT hneg, true, rfl, ?_⟩
        exact iteF ⟨_, _, _, rfl, sn.trans sp⟩
      · have ecn' := so _ _ ecn
        refine ⟨_, rfl, _, rfl, c, _, _, _, rfl, rfl, sqt ecn', atI0, _, rfl, c, _, _, _, rfl, rfl, sqt ecn', atI1, _, rfl, _, A0, kq, gq, Kq, Gq, st, rfl, hAn.tp (SameTp so), hG, so _ _ (s8n _ _ ekq), so _ _ (s8n _ _ egq), hSq', st0, st1, fun R u Hp' sp hE hdue => ?_⟩
        have hT := told_of hG st0 st1 hE hdue
        refine ⟨_, rfl, _, _, rfl, told_alk hT hLd h46 (sp _ _ ep), true, rfl, ?_⟩
        exact iteF ⟨_, _, _, rfl, (sn.trans so).trans sp⟩
    · rintro σ Hn ⟨y9, y10, y11, rfl, sn⟩
      exact ⟨_, _, _, _, _, _, rfl, s8m.trans sn⟩
  · rintro σ H8 ⟨y6, y7, y8, y9, y10, y11, rfl, s8⟩
    obtain ⟨mn, hmn⟩ : ∃ mn : Int, (if ((xs.length : Nat) : Int) < 3 then ((xs.length : Nat) : Int) else 3) = mn := ⟨_, rfl⟩
    have hmn2 : mn ≤ 3 ∧ mn ≤ A0.length ∧ 0 ≤ mn := by
      split at hmn <;> omega
    have hmn0 := congrArg (fun z : Int => [V.int z]) hmn
    refine ⟨_, rfl, b0, _, rfl, .inr (sqt (s8 _ _ e0d)), _, _, rfl, mn, hmn0, by omega, by omega, ?_⟩
    refine for_range (lo := 0) (n := mn.toNat) (fun (j : Nat) (σ : L2.St) (H' : Hp) => ∃ y6 y7 y8 y9 y10 y11 : Option V, σ = [some (.ref a), some (.ref d), some (.ref b0), some (.ref kp), some (.ref sl), some (.ref wh), y6, y7, y8, y9, y10, y11] ∧ Same Hd H') ?_ ?_ ?_
    · exact ⟨_, _, _, _, _, _, rfl, s8⟩
    · rintro j σ Hn hj ⟨y6, y7, y8, y9, y10, y11, rfl, sn⟩
      generalize hk : (0 : Int) + (j : Int) = st
      have st0 : 0 ≤ st := by omega
      have st1 : st < A0.length := by omega
      refine ⟨_, rfl, Nat.zero_le _, fun te hte => ?_⟩
      obtain ⟨Ho, eo, so, ko⟩ := newH hte (.tup [])
      rw [eo]
      have sdo := sn.trans so
      refine ⟨_, rfl, sl, _, _, _, rfl, rfl, sqd (sdo _ _ ksl), atI1, _, rfl, _, A0, te, gb, [], G1, st, rfl, hAd.tp (SameTp sdo), hG, ko, sdo _ _ eg1d, hS1, st0, st1, fun R u Hp' sp hE hdue => ?_⟩
      have hT := told_of hG st0 st1 hE hdue
      have hl0 : lostB A0 G1 [] st = true := by
        unfold lostB
        rw [decide_eq_false (show ¬ st ∈ ([] : List Int) from fun h => nomatch h), Bool.not_false, Bool.or_true]
      refine ⟨Nat.zero_le _, fun tf htf => ?_⟩
      obtain ⟨Hq, eq', sq, kq⟩ := newH htf (.tup [])
      rw [eq']
      have hds : dst (scF A0 G1) (lostB A0 G1 []) A0.length st = ((0 : Nat) : Int) := dst_lost hl0 _
      have hT' : Told Hq (scF A0 G1) (lostB A0 G1 []) st A0.length u := by
        rcases hT with h | ⟨L', e', p', h1, h2, h3, h4, h5⟩
        · exact .inl h
        · exact .inr ⟨L', e', p', h1, h2, h3, h4, sq _ _ h5⟩
      refine ⟨_, _, rfl, told_alk hT' hds h46 kq, true, rfl, ?_⟩
      exact iteF ⟨_, _, _, _, _, _, rfl, (sdo.trans sp).trans sq⟩
    · rintro σ Hn ⟨y6, y7, y8, y9, y10, y11, rfl, sn⟩
      exact q _
end
end NL

namespace NL
open PySem PySem.Spec PyProof.Rows L2
theorem all_mk {l : PySem.W.OpenLaw} {w : World} {K : PySem.W.Frag} {h : Heap} {mg : Str → Option Value} {fa f_successors_by f_least_rows fleast_bad_row f_law_draws f_law_take f_law_great f_law_arena f_law_some f_law_strategy f_law_distances f_law_bad_row f_law_same flaw : Addr} (X : K.In h) (G : h.Ns mainGlobals mg) (hfa : mg "law" = some (.ref fa))
    {od_successors_by an_successors_by : Option Addr} {sl_successors_by : Array (Option Value)} {oc_successors_by kV_successors_by dc_successors_by pm_successors_by cd_successors_by ct_successors_by : Value}
    {od_least_rows an_least_rows : Option Addr} {sl_least_rows : Array (Option Value)} {oc_least_rows kV_least_rows dc_least_rows pm_least_rows cd_least_rows ct_least_rows : Value}
    {odleast_bad_row anleast_bad_row : Option Addr} {slleast_bad_row : Array (Option Value)} {ocleast_bad_row kVleast_bad_row dcleast_bad_row pmleast_bad_row cdleast_bad_row ctleast_bad_row : Value}
    {od_law_draws an_law_draws : Option Addr} {sl_law_draws : Array (Option Value)} {oc_law_draws kV_law_draws dc_law_draws pm_law_draws cd_law_draws ct_law_draws : Value}
    {od_law_take an_law_take : Option Addr} {sl_law_take : Array (Option Value)} {oc_law_take kV_law_take dc_law_take pm_law_take cd_law_take ct_law_take : Value}
    {od_law_great an_law_great : Option Addr} {sl_law_great : Array (Option Value)} {oc_law_great kV_law_great dc_law_great pm_law_great cd_law_great ct_law_great : Value}
    {od_law_arena an_law_arena : Option Addr} {sl_law_arena : Array (Option Value)} {oc_law_arena kV_law_arena dc_law_arena pm_law_arena cd_law_arena ct_law_arena : Value}
    {od_law_some an_law_some : Option Addr} {sl_law_some : Array (Option Value)} {oc_law_some kV_law_some dc_law_some pm_law_some cd_law_some ct_law_some : Value}
    {od_law_strategy an_law_strategy : Option Addr} {sl_law_strategy : Array (Option Value)} {oc_law_strategy kV_law_strategy dc_law_strategy pm_law_strategy cd_law_strategy ct_law_strategy : Value}
    {od_law_distances an_law_distances : Option Addr} {sl_law_distances : Array (Option Value)} {oc_law_distances kV_law_distances dc_law_distances pm_law_distances cd_law_distances ct_law_distances : Value}
    {od_law_bad_row an_law_bad_row : Option Addr} {sl_law_bad_row : Array (Option Value)} {oc_law_bad_row kV_law_bad_row dc_law_bad_row pm_law_bad_row cd_law_bad_row ct_law_bad_row : Value}
    {od_law_same an_law_same : Option Addr} {sl_law_same : Array (Option Value)} {oc_law_same kV_law_same dc_law_same pm_law_same cd_law_same ct_law_same : Value}
    {odlaw anlaw : Option Addr} {sllaw : Array (Option Value)} {oclaw kVlaw dclaw pmlaw cdlaw ctlaw : Value}
    (a_successors_by : PySem.W.nsIn K mainGlobals "_successors_by" = some (some (.ref f_successors_by))) (l_successors_by : K.lookup f_successors_by = some ⟨oc_successors_by, od_successors_by, .func (PySem.W.fnOf "_successors_by" "_successors_by" (defArgs s_successors_by) (defBody s_successors_by) (defScope s_successors_by) .none kV_successors_by dc_successors_by pm_successors_by an_successors_by cd_successors_by ct_successors_by), sl_successors_by⟩) (c_successors_by : PySem.W.codeIn K cd_successors_by "_successors_by" = true) (k_successors_by : PySem.W.keepIn K (.ref f_successors_by) = true)
    (a_least_rows : PySem.W.nsIn K mainGlobals "_least_rows" = some (some (.ref f_least_rows))) (l_least_rows : K.lookup f_least_rows = some ⟨oc_least_rows, od_least_rows, .func (PySem.W.fnOf "_least_rows" "_least_rows" (defArgs s_least_rows) (defBody s_least_rows) (defScope s_least_rows) .none kV_least_rows dc_least_rows pm_least_rows an_least_rows cd_least_rows ct_least_rows), sl_least_rows⟩) (c_least_rows : PySem.W.codeIn K cd_least_rows "_least_rows" = true) (k_least_rows : PySem.W.keepIn K (.ref f_least_rows) = true)
    (aleast_bad_row : PySem.W.nsIn K mainGlobals "least_bad_row" = some (some (.ref fleast_bad_row))) (lleast_bad_row : K.lookup fleast_bad_row = some ⟨ocleast_bad_row, odleast_bad_row, .func (PySem.W.fnOf "least_bad_row" "least_bad_row" (defArgs sleast_bad_row) (defBody sleast_bad_row) (defScope sleast_bad_row) .none kVleast_bad_row dcleast_bad_row pmleast_bad_row anleast_bad_row cdleast_bad_row ctleast_bad_row), slleast_bad_row⟩) (cleast_bad_row : PySem.W.codeIn K cdleast_bad_row "least_bad_row" = true) (kleast_bad_row : PySem.W.keepIn K (.ref fleast_bad_row) = true)
    (a_law_draws : PySem.W.nsIn K mainGlobals "_law_draws" = some (some (.ref f_law_draws))) (l_law_draws : K.lookup f_law_draws = some ⟨oc_law_draws, od_law_draws, .func (PySem.W.fnOf "_law_draws" "_law_draws" (defArgs s_law_draws) (defBody s_law_draws) (defScope s_law_draws) .none kV_law_draws dc_law_draws pm_law_draws an_law_draws cd_law_draws ct_law_draws), sl_law_draws⟩) (c_law_draws : PySem.W.codeIn K cd_law_draws "_law_draws" = true) (k_law_draws : PySem.W.keepIn K (.ref f_law_draws) = true)
    (a_law_take : PySem.W.nsIn K mainGlobals "_law_take" = some (some (.ref f_law_take))) (l_law_take : K.lookup f_law_take = some ⟨oc_law_take, od_law_take, .func (PySem.W.fnOf "_law_take" "_law_take" (defArgs s_law_take) (defBody s_law_take) (defScope s_law_take) .none kV_law_take dc_law_take pm_law_take an_law_take cd_law_take ct_law_take), sl_law_take⟩) (c_law_take : PySem.W.codeIn K cd_law_take "_law_take" = true) (k_law_take : PySem.W.keepIn K (.ref f_law_take) = true)
    (a_law_great : PySem.W.nsIn K mainGlobals "_law_great" = some (some (.ref f_law_great))) (l_law_great : K.lookup f_law_great = some ⟨oc_law_great, od_law_great, .func (PySem.W.fnOf "_law_great" "_law_great" (defArgs s_law_great) (defBody s_law_great) (defScope s_law_great) .none kV_law_great dc_law_great pm_law_great an_law_great cd_law_great ct_law_great), sl_law_great⟩) (c_law_great : PySem.W.codeIn K cd_law_great "_law_great" = true) (k_law_great : PySem.W.keepIn K (.ref f_law_great) = true)
    (a_law_arena : PySem.W.nsIn K mainGlobals "_law_arena" = some (some (.ref f_law_arena))) (l_law_arena : K.lookup f_law_arena = some ⟨oc_law_arena, od_law_arena, .func (PySem.W.fnOf "_law_arena" "_law_arena" (defArgs s_law_arena) (defBody s_law_arena) (defScope s_law_arena) .none kV_law_arena dc_law_arena pm_law_arena an_law_arena cd_law_arena ct_law_arena), sl_law_arena⟩) (c_law_arena : PySem.W.codeIn K cd_law_arena "_law_arena" = true) (k_law_arena : PySem.W.keepIn K (.ref f_law_arena) = true)
    (a_law_some : PySem.W.nsIn K mainGlobals "_law_some" = some (some (.ref f_law_some))) (l_law_some : K.lookup f_law_some = some ⟨oc_law_some, od_law_some, .func (PySem.W.fnOf "_law_some" "_law_some" (defArgs s_law_some) (defBody s_law_some) (defScope s_law_some) .none kV_law_some dc_law_some pm_law_some an_law_some cd_law_some ct_law_some), sl_law_some⟩) (c_law_some : PySem.W.codeIn K cd_law_some "_law_some" = true) (k_law_some : PySem.W.keepIn K (.ref f_law_some) = true)
    (a_law_strategy : PySem.W.nsIn K mainGlobals "_law_strategy" = some (some (.ref f_law_strategy))) (l_law_strategy : K.lookup f_law_strategy = some ⟨oc_law_strategy, od_law_strategy, .func (PySem.W.fnOf "_law_strategy" "_law_strategy" (defArgs s_law_strategy) (defBody s_law_strategy) (defScope s_law_strategy) .none kV_law_strategy dc_law_strategy pm_law_strategy an_law_strategy cd_law_strategy ct_law_strategy), sl_law_strategy⟩) (c_law_strategy : PySem.W.codeIn K cd_law_strategy "_law_strategy" = true) (k_law_strategy : PySem.W.keepIn K (.ref f_law_strategy) = true)
    (a_law_distances : PySem.W.nsIn K mainGlobals "_law_distances" = some (some (.ref f_law_distances))) (l_law_distances : K.lookup f_law_distances = some ⟨oc_law_distances, od_law_distances, .func (PySem.W.fnOf "_law_distances" "_law_distances" (defArgs s_law_distances) (defBody s_law_distances) (defScope s_law_distances) .none kV_law_distances dc_law_distances pm_law_distances an_law_distances cd_law_distances ct_law_distances), sl_law_distances⟩) (c_law_distances : PySem.W.codeIn K cd_law_distances "_law_distances" = true) (k_law_distances : PySem.W.keepIn K (.ref f_law_distances) = true)
    (a_law_bad_row : PySem.W.nsIn K mainGlobals "_law_bad_row" = some (some (.ref f_law_bad_row))) (l_law_bad_row : K.lookup f_law_bad_row = some ⟨oc_law_bad_row, od_law_bad_row, .func (PySem.W.fnOf "_law_bad_row" "_law_bad_row" (defArgs s_law_bad_row) (defBody s_law_bad_row) (defScope s_law_bad_row) .none kV_law_bad_row dc_law_bad_row pm_law_bad_row an_law_bad_row cd_law_bad_row ct_law_bad_row), sl_law_bad_row⟩) (c_law_bad_row : PySem.W.codeIn K cd_law_bad_row "_law_bad_row" = true) (k_law_bad_row : PySem.W.keepIn K (.ref f_law_bad_row) = true)
    (a_law_same : PySem.W.nsIn K mainGlobals "_law_same" = some (some (.ref f_law_same))) (l_law_same : K.lookup f_law_same = some ⟨oc_law_same, od_law_same, .func (PySem.W.fnOf "_law_same" "_law_same" (defArgs s_law_same) (defBody s_law_same) (defScope s_law_same) .none kV_law_same dc_law_same pm_law_same an_law_same cd_law_same ct_law_same), sl_law_same⟩) (c_law_same : PySem.W.codeIn K cd_law_same "_law_same" = true) (k_law_same : PySem.W.keepIn K (.ref f_law_same) = true)
    (alaw : PySem.W.nsIn K mainGlobals "law" = some (some (.ref flaw))) (llaw : K.lookup flaw = some ⟨oclaw, odlaw, .func (PySem.W.fnOf "law" "law" (defArgs slaw) (defBody slaw) (defScope slaw) .none kVlaw dclaw pmlaw anlaw cdlaw ctlaw), sllaw⟩) (claw : PySem.W.codeIn K cdlaw "law" = true) (klaw : PySem.W.keepIn K (.ref flaw) = true)
    (z_bool : PySem.W.nsIn K mainGlobals "bool" = some none)
    (z_int : PySem.W.nsIn K mainGlobals "int" = some none)
    (z_isinstance : PySem.W.nsIn K mainGlobals "isinstance" = some none)
    (z_len : PySem.W.nsIn K mainGlobals "len" = some none)
    (z_list : PySem.W.nsIn K mainGlobals "list" = some none)
    (z_min : PySem.W.nsIn K mainGlobals "min" = some none)
    (z_range : PySem.W.nsIn K mainGlobals "range" = some none)
    (z_set : PySem.W.nsIn K mainGlobals "set" = some none)
    (z_sorted : PySem.W.nsIn K mainGlobals "sorted" = some none)
    (z_str : PySem.W.nsIn K mainGlobals "str" = some none)
    (z_tuple : PySem.W.nsIn K mainGlobals "tuple" = some none)
    (z_zip : PySem.W.nsIn K mainGlobals "zip" = some none)
    : ∃ fd : FuncData, (∀ (s : Shared) (v : Value), BindsTo s fd ⟨[v], []⟩ [("script", v)]) ∧ ∀ base : Heap, K.In base → base.Ns mainGlobals mg → FnOk l.prog w K mg base CX0 5 fa fd ["script"] (spLaw K) := by
  have e := hfa.symm.trans (PySem.W.mg_of X G alaw)
  cases e
  let T : Txt K mg := {
    z_bool := PySem.W.mg_none_of X G z_bool
    z_int := PySem.W.mg_none_of X G z_int
    z_isinstance := PySem.W.mg_none_of X G z_isinstance
    z_len := PySem.W.mg_none_of X G z_len
    z_list := PySem.W.mg_none_of X G z_list
    z_min := PySem.W.mg_none_of X G z_min
    z_range := PySem.W.mg_none_of X G z_range
    z_set := PySem.W.mg_none_of X G z_set
    z_sorted := PySem.W.mg_none_of X G z_sorted
    z_str := PySem.W.mg_none_of X G z_str
    z_tuple := PySem.W.mg_none_of X G z_tuple
    z_zip := PySem.W.mg_none_of X G z_zip
    a_successors_by := f_successors_by
    d_successors_by := _
    F_successors_by := fun_mk (st := s_successors_by) l_successors_by c_successors_by k_successors_by
    m_successors_by := PySem.W.mg_of X G a_successors_by
    a_least_rows := f_least_rows
    d_least_rows := _
    F_least_rows := fun_mk (st := s_least_rows) l_least_rows c_least_rows k_least_rows
    m_least_rows := PySem.W.mg_of X G a_least_rows
    aleast_bad_row := fleast_bad_row
    dleast_bad_row := _
    Fleast_bad_row := fun_mk (st := sleast_bad_row) lleast_bad_row cleast_bad_row kleast_bad_row
    mleast_bad_row := PySem.W.mg_of X G aleast_bad_row
    a_law_draws := f_law_draws
    d_law_draws := _
    F_law_draws := fun_mk (st := s_law_draws) l_law_draws c_law_draws k_law_draws
    m_law_draws := PySem.W.mg_of X G a_law_draws
    a_law_take := f_law_take
    d_law_take := _
    F_law_take := fun_mk (st := s_law_take) l_law_take c_law_take k_law_take
    m_law_take := PySem.W.mg_of X G a_law_take
    a_law_great := f_law_great
    d_law_great := _
    F_law_great := fun_mk (st := s_law_great) l_law_great c_law_great k_law_great
    m_law_great := PySem.W.mg_of X G a_law_great
    a_law_arena := f_law_arena
    d_law_arena := _
    F_law_arena := fun_mk (st := s_law_arena) l_law_arena c_law_arena k_law_arena
    m_law_arena := PySem.W.mg_of X G a_law_arena
    a_law_some := f_law_some
    d_law_some := _
    F_law_some := fun_mk (st := s_law_some) l_law_some c_law_some k_law_some
    m_law_some := PySem.W.mg_of X G a_law_some
    a_law_strategy := f_law_strategy
    d_law_strategy := _
    F_law_strategy := fun_mk (st := s_law_strategy) l_law_strategy c_law_strategy k_law_strategy
    m_law_strategy := PySem.W.mg_of X G a_law_strategy
    a_law_distances := f_law_distances
    d_law_distances := _
    F_law_distances := fun_mk (st := s_law_distances) l_law_distances c_law_distances k_law_distances
    m_law_distances := PySem.W.mg_of X G a_law_distances
    a_law_bad_row := f_law_bad_row
    d_law_bad_row := _
    F_law_bad_row := fun_mk (st := s_law_bad_row) l_law_bad_row c_law_bad_row k_law_bad_row
    m_law_bad_row := PySem.W.mg_of X G a_law_bad_row
    a_law_same := f_law_same
    d_law_same := _
    F_law_same := fun_mk (st := s_law_same) l_law_same c_law_same k_law_same
    m_law_same := PySem.W.mg_of X G a_law_same
    alaw := fa
    dlaw := _
    Flaw := fun_mk (st := slaw) llaw claw klaw
    mlaw := PySem.W.mg_of X G alaw }
  refine ⟨T.dlaw, fun s v => .of_eq rfl, fun base _ _ => ?_⟩
  exact ok_law T
end NL
open PySem PySem.W PyProof.Rows
set_option maxRecDepth 100000 in
set_option maxHeartbeats 0 in
theorem PySem.Challenge.cw_neverleaves_k72_least_bad_rows_holds : PySem.Challenge.rw_neverleaves_k72_least_bad_rows.Holds := by
  w_on; o_law; k_head; (case hw => w_witness2)
  k_fill
  refine L2.walk_of (l := PySem.Challenge.rw_neverleaves_k72_least_bad_rows) (n := 63) (k := 5) (x := "script") (CX := fun _ => L2.CX0) (sp := fun w => NL.spLaw _) rfl (by decide) rfl ⟨rfl, by decide, by decide⟩ (fun w h Y => PySem.W.kIn_of Y) ?F (fun _ _ a ns hl _ hS => ⟨a, ns, rfl, hS, hl, fun _ => rfl⟩) (fun _ _ _ _ _ h => h)
  case F =>
    intro w mg fa h KX G hmg
    refine' NL.all_mk KX G hmg ?a_successors_by ?l_successors_by ?c_successors_by ?k_successors_by ?a_least_rows ?l_least_rows ?c_least_rows ?k_least_rows ?aleast_bad_row ?lleast_bad_row ?cleast_bad_row ?kleast_bad_row ?a_law_draws ?l_law_draws ?c_law_draws ?k_law_draws ?a_law_take ?l_law_take ?c_law_take ?k_law_take ?a_law_great ?l_law_great ?c_law_great ?k_law_great ?a_law_arena ?l_law_arena ?c_law_arena ?k_law_arena ?a_law_some ?l_law_some ?c_law_some ?k_law_some ?a_law_strategy ?l_law_strategy ?c_law_strategy ?k_law_strategy ?a_law_distances ?l_law_distances ?c_law_distances ?k_law_distances ?a_law_bad_row ?l_law_bad_row ?c_law_bad_row ?k_law_bad_row ?a_law_same ?l_law_same ?c_law_same ?k_law_same ?alaw ?llaw ?claw ?klaw  ?z_bool ?z_int ?z_isinstance ?z_len ?z_list ?z_min ?z_range ?z_set ?z_sorted ?z_str ?z_tuple ?z_zip
    (case a_successors_by => k_is); (case l_successors_by => k_is); (case c_successors_by => k_is); (case k_successors_by => k_is)
    (case a_least_rows => k_is); (case l_least_rows => k_is); (case c_least_rows => k_is); (case k_least_rows => k_is)
    (case aleast_bad_row => k_is); (case lleast_bad_row => k_is); (case cleast_bad_row => k_is); (case kleast_bad_row => k_is)
    (case a_law_draws => k_is); (case l_law_draws => k_is); (case c_law_draws => k_is); (case k_law_draws => k_is)
    (case a_law_take => k_is); (case l_law_take => k_is); (case c_law_take => k_is); (case k_law_take => k_is)
    (case a_law_great => k_is); (case l_law_great => k_is); (case c_law_great => k_is); (case k_law_great => k_is)
    (case a_law_arena => k_is); (case l_law_arena => k_is); (case c_law_arena => k_is); (case k_law_arena => k_is)
    (case a_law_some => k_is); (case l_law_some => k_is); (case c_law_some => k_is); (case k_law_some => k_is)
    (case a_law_strategy => k_is); (case l_law_strategy => k_is); (case c_law_strategy => k_is); (case k_law_strategy => k_is)
    (case a_law_distances => k_is); (case l_law_distances => k_is); (case c_law_distances => k_is); (case k_law_distances => k_is)
    (case a_law_bad_row => k_is); (case l_law_bad_row => k_is); (case c_law_bad_row => k_is); (case k_law_bad_row => k_is)
    (case a_law_same => k_is); (case l_law_same => k_is); (case c_law_same => k_is); (case k_law_same => k_is)
    (case alaw => k_is); (case llaw => k_is); (case claw => k_is); (case klaw => k_is)
    (case z_bool => k_is)
    (case z_int => k_is)
    (case z_isinstance => k_is)
    (case z_len => k_is)
    (case z_list => k_is)
    (case z_min => k_is)
    (case z_range => k_is)
    (case z_set => k_is)
    (case z_sorted => k_is)
    (case z_str => k_is)
    (case z_tuple => k_is)
    (case z_zip => k_is)
