import PyProof.Rows.All
import Wide.All
import OpenK.AllK
import Wide.FinOn
import HandS.ForExc
import HandS.ForMost
import HandS.TupAny
import HandS.IsInst
import HandS.Codes
import HandS.FStr
import HandS.Zip
import HandS.More
import HandS.DictComp
import HandS.Walk
import HandS.Conv
import PyProof.Draws
import HandS.Iter
import HandS.TupMul
import HandS.SortKw
import KE.DataMinMax
import KE.KxIndex
import PySem.Challenge.RW_neverleaves_k00_least_costs_home
set_option Elab.async false
set_option linter.all false
set_option maxRecDepth 100000

namespace NL
open PySem PySem.Spec PyProof.Rows L2
def topS (i : Nat) : Stmt := PySem.Challenge.pw_neverleaves_k00_least_costs_home.main.body.getD i (.Pass ⟨0, 0, 0, 0⟩)
abbrev sleast_costs : Stmt := topS 1
abbrev Nleast_costs : List Str := ["arena", "home", "costs", "leading", "missing", "option", "options", "told", "found", "at", "cost", "place", "before", "index", "whole"]
abbrev Pleast_costs : List Str := ["arena", "home", "costs"]
theorem scleast_costs : FnScope Nleast_costs Pleast_costs (defScope sleast_costs) := ⟨rfl, rfl, rfl, by decide +kernel, rfl, by decide +kernel, by decide +kernel⟩
abbrev s_options_to : Stmt := topS 2
abbrev N_options_to : List Str := ["arena", "leading", "_", "at", "options", "index", "option", "after"]
abbrev P_options_to : List Str := ["arena"]
theorem sc_options_to : FnScope N_options_to P_options_to (defScope s_options_to) := ⟨rfl, rfl, rfl, by decide +kernel, rfl, by decide +kernel, by decide +kernel⟩
abbrev s_law_is_integer : Stmt := topS 4
abbrev N_law_is_integer : List Str := ["value"]
abbrev P_law_is_integer : List Str := ["value"]
theorem sc_law_is_integer : FnScope N_law_is_integer P_law_is_integer (defScope s_law_is_integer) := ⟨rfl, rfl, rfl, by decide +kernel, rfl, by decide +kernel, by decide +kernel⟩
abbrev s_law_draws : Stmt := topS 5
abbrev N_law_draws : List Str := ["script", "many", "cells", "cell", "rest", "draws", "k", "at", "once"]
abbrev P_law_draws : List Str := ["script", "many"]
theorem sc_law_draws : FnScope N_law_draws P_law_draws (defScope s_law_draws) := ⟨rfl, rfl, rfl, by decide +kernel, rfl, by decide +kernel, by decide +kernel⟩
abbrev s_law_take : Stmt := topS 6
abbrev N_law_take : List Str := ["draws", "many"]
abbrev P_law_take : List Str := ["draws", "many"]
theorem sc_law_take : FnScope N_law_take P_law_take (defScope s_law_take) := ⟨rfl, rfl, rfl, by decide +kernel, rfl, by decide +kernel, by decide +kernel⟩
abbrev s_law_options : Stmt := topS 7
abbrev N_law_options : List Str := ["draws", "count", "sizes", "options", "j", "found", "i", "successor"]
abbrev P_law_options : List Str := ["draws", "count", "sizes"]
theorem sc_law_options : FnScope N_law_options P_law_options (defScope s_law_options) := ⟨rfl, rfl, rfl, by decide +kernel, rfl, by decide +kernel, by decide +kernel⟩
abbrev s_law_distinct : Stmt := topS 8
abbrev N_law_distinct : List Str := ["items", "found", "item"]
abbrev P_law_distinct : List Str := ["items"]
theorem sc_law_distinct : FnScope N_law_distinct P_law_distinct (defScope s_law_distinct) := ⟨rfl, rfl, rfl, by decide +kernel, rfl, by decide +kernel, by decide +kernel⟩
abbrev s_law_arena : Stmt := topS 9
abbrev N_law_arena : List Str := ["draws", "most", "count", "tower", "arena", "k", "options"]
abbrev P_law_arena : List Str := ["draws", "most"]
theorem sc_law_arena : FnScope N_law_arena P_law_arena (defScope s_law_arena) := ⟨rfl, rfl, rfl, by decide +kernel, rfl, by decide +kernel, by decide +kernel⟩
abbrev s_law_some : Stmt := topS 10
abbrev N_law_some : List Str := ["draws", "count", "share", "k"]
abbrev P_law_some : List Str := ["draws", "count", "share"]
theorem sc_law_some : FnScope N_law_some P_law_some (defScope s_law_some) := ⟨rfl, rfl, rfl, by decide +kernel, rfl, by decide +kernel, by decide +kernel⟩
abbrev s_law_long : Stmt := topS 11
abbrev N_law_long : List Str := ["draws", "count", "arena", "k", "back"]
abbrev P_law_long : List Str := ["draws"]
theorem sc_law_long : FnScope N_law_long P_law_long (defScope s_law_long) := ⟨rfl, rfl, rfl, by decide +kernel, rfl, by decide +kernel, by decide +kernel⟩
abbrev s_law_come_ranks : Stmt := topS 12
abbrev N_law_come_ranks : List Str := ["arena", "home", "ranks", "options", "k", "rank", "before", "option", "one"]
abbrev P_law_come_ranks : List Str := ["arena", "home"]
theorem sc_law_come_ranks : FnScope N_law_come_ranks P_law_come_ranks (defScope s_law_come_ranks) := ⟨rfl, rfl, rfl, by decide +kernel, rfl, by decide +kernel, by decide +kernel⟩
abbrev s_law_due : Stmt := topS 13
abbrev N_law_due : List Str := ["arena", "home", "costs", "due", "options", "k", "step", "before", "sums", "index", "known", "one"]
abbrev P_law_due : List Str := ["arena", "home", "costs"]
theorem sc_law_due : FnScope N_law_due P_law_due (defScope s_law_due) := ⟨rfl, rfl, rfl, by decide +kernel, rfl, by decide +kernel, by decide +kernel⟩
abbrev s_law_told : Stmt := topS 14
abbrev N_law_told : List Str := ["actual", "due", "k"]
abbrev P_law_told : List Str := ["actual", "due"]
theorem sc_law_told : FnScope N_law_told P_law_told (defScope s_law_told) := ⟨rfl, rfl, rfl, by decide +kernel, rfl, by decide +kernel, by decide +kernel⟩
abbrev slaw : Stmt := topS 15
abbrev Nlaw : List Str := ["script", "draws", "arena", "home", "wide", "costs", "ones", "options", "option"]
abbrev Plaw : List Str := ["script"]
theorem sclaw : FnScope Nlaw Plaw (defScope slaw) := ⟨rfl, rfl, rfl, by decide +kernel, rfl, by decide +kernel, by decide +kernel⟩
def KT (K : PySem.W.Frag) (a : Addr) (ys : List V) : Prop := ∃ o its n, List.lookup a K = some o ∧ o.cls = .type "tuple" ∧ o.data = .seq its n ∧ its.size ≤ sizeLine ∧ L2.Vals ys its.toList
theorem kt_mk {K : PySem.W.Frag} {a : Addr} {ys : List V} {o : Obj} {its : Array Value} {n : Nat} (h1 : List.lookup a K = some o) (h2 : o.cls = .type "tuple") (h3 : o.data = .seq its n) (h4 : its.size ≤ sizeLine) (h5 : L2.Vals ys its.toList) : KT K a ys := ⟨o, its, n, h1, h2, h3, h4, h5⟩
set_option genInjectivity false in
set_option genSizeOfSpec false in
structure Txt (K : PySem.W.Frag) (mg : Str → Option Value) where
  z_bool : mg "bool" = none
  z_enumerate : mg "enumerate" = none
  z_int : mg "int" = none
  z_isinstance : mg "isinstance" = none
  z_len : mg "len" = none
  z_list : mg "list" = none
  z_max : mg "max" = none
  z_min : mg "min" = none
  z_range : mg "range" = none
  z_sorted : mg "sorted" = none
  z_tuple : mg "tuple" = none
  aleast_costs : Addr
  dleast_costs : FuncData
  Fleast_costs : Fun K "least_costs" "least_costs" sleast_costs aleast_costs dleast_costs
  mleast_costs : mg "least_costs" = some (.ref aleast_costs)
  a_options_to : Addr
  d_options_to : FuncData
  F_options_to : Fun K "_options_to" "_options_to" s_options_to a_options_to d_options_to
  m_options_to : mg "_options_to" = some (.ref a_options_to)
  a_law_is_integer : Addr
  d_law_is_integer : FuncData
  F_law_is_integer : Fun K "_law_is_integer" "_law_is_integer" s_law_is_integer a_law_is_integer d_law_is_integer
  m_law_is_integer : mg "_law_is_integer" = some (.ref a_law_is_integer)
  a_law_draws : Addr
  d_law_draws : FuncData
  F_law_draws : Fun K "_law_draws" "_law_draws" s_law_draws a_law_draws d_law_draws
  m_law_draws : mg "_law_draws" = some (.ref a_law_draws)
  a_law_take : Addr
  d_law_take : FuncData
  F_law_take : Fun K "_law_take" "_law_take" s_law_take a_law_take d_law_take
  m_law_take : mg "_law_take" = some (.ref a_law_take)
  a_law_options : Addr
  d_law_options : FuncData
  F_law_options : Fun K "_law_options" "_law_options" s_law_options a_law_options d_law_options
  m_law_options : mg "_law_options" = some (.ref a_law_options)
  a_law_distinct : Addr
  d_law_distinct : FuncData
  F_law_distinct : Fun K "_law_distinct" "_law_distinct" s_law_distinct a_law_distinct d_law_distinct
  m_law_distinct : mg "_law_distinct" = some (.ref a_law_distinct)
  a_law_arena : Addr
  d_law_arena : FuncData
  F_law_arena : Fun K "_law_arena" "_law_arena" s_law_arena a_law_arena d_law_arena
  m_law_arena : mg "_law_arena" = some (.ref a_law_arena)
  a_law_some : Addr
  d_law_some : FuncData
  F_law_some : Fun K "_law_some" "_law_some" s_law_some a_law_some d_law_some
  m_law_some : mg "_law_some" = some (.ref a_law_some)
  a_law_long : Addr
  d_law_long : FuncData
  F_law_long : Fun K "_law_long" "_law_long" s_law_long a_law_long d_law_long
  m_law_long : mg "_law_long" = some (.ref a_law_long)
  a_law_come_ranks : Addr
  d_law_come_ranks : FuncData
  F_law_come_ranks : Fun K "_law_come_ranks" "_law_come_ranks" s_law_come_ranks a_law_come_ranks d_law_come_ranks
  m_law_come_ranks : mg "_law_come_ranks" = some (.ref a_law_come_ranks)
  a_law_due : Addr
  d_law_due : FuncData
  F_law_due : Fun K "_law_due" "_law_due" s_law_due a_law_due d_law_due
  m_law_due : mg "_law_due" = some (.ref a_law_due)
  a_law_told : Addr
  d_law_told : FuncData
  F_law_told : Fun K "_law_told" "_law_told" s_law_told a_law_told d_law_told
  m_law_told : mg "_law_told" = some (.ref a_law_told)
  alaw : Addr
  dlaw : FuncData
  Flaw : Fun K "law" "law" slaw alaw dlaw
  mlaw : mg "law" = some (.ref alaw)
theorem Txt.bleast_costs {K : PySem.W.Frag} {mg : Str → Option Value} (T : Txt K mg) : Binds K T.dleast_costs Pleast_costs [] := T.Fleast_costs.binds fun _ _ _ _ _ _ us hl => match us, hl with | [_, _, _], _ => rfl
theorem Txt.b_options_to {K : PySem.W.Frag} {mg : Str → Option Value} (T : Txt K mg) : Binds K T.d_options_to P_options_to [] := T.F_options_to.binds fun _ _ _ _ _ _ us hl => match us, hl with | [_], _ => rfl
theorem Txt.b_law_is_integer {K : PySem.W.Frag} {mg : Str → Option Value} (T : Txt K mg) : Binds K T.d_law_is_integer P_law_is_integer [] := T.F_law_is_integer.binds fun _ _ _ _ _ _ us hl => match us, hl with | [_], _ => rfl
theorem Txt.b_law_draws {K : PySem.W.Frag} {mg : Str → Option Value} (T : Txt K mg) : Binds K T.d_law_draws P_law_draws [] := T.F_law_draws.binds fun _ _ _ _ _ _ us hl => match us, hl with | [_, _], _ => rfl
theorem Txt.b_law_take {K : PySem.W.Frag} {mg : Str → Option Value} (T : Txt K mg) : Binds K T.d_law_take P_law_take [] := T.F_law_take.binds fun _ _ _ _ _ _ us hl => match us, hl with | [_, _], _ => rfl
theorem Txt.b_law_options {K : PySem.W.Frag} {mg : Str → Option Value} (T : Txt K mg) : Binds K T.d_law_options P_law_options [] := T.F_law_options.binds fun _ _ _ _ _ _ us hl => match us, hl with | [_, _, _], _ => rfl
theorem Txt.b_law_distinct {K : PySem.W.Frag} {mg : Str → Option Value} (T : Txt K mg) : Binds K T.d_law_distinct P_law_distinct [] := T.F_law_distinct.binds fun _ _ _ _ _ _ us hl => match us, hl with | [_], _ => rfl
theorem Txt.b_law_arena {K : PySem.W.Frag} {mg : Str → Option Value} (T : Txt K mg) : Binds K T.d_law_arena P_law_arena [] := T.F_law_arena.binds fun _ _ _ _ _ _ us hl => match us, hl with | [_, _], _ => rfl
theorem Txt.b_law_some {K : PySem.W.Frag} {mg : Str → Option Value} (T : Txt K mg) : Binds K T.d_law_some P_law_some [] := T.F_law_some.binds fun _ _ _ _ _ _ us hl => match us, hl with | [_, _, _], _ => rfl
theorem Txt.b_law_long {K : PySem.W.Frag} {mg : Str → Option Value} (T : Txt K mg) : Binds K T.d_law_long P_law_long [] := T.F_law_long.binds fun _ _ _ _ _ _ us hl => match us, hl with | [_], _ => rfl
theorem Txt.b_law_come_ranks {K : PySem.W.Frag} {mg : Str → Option Value} (T : Txt K mg) : Binds K T.d_law_come_ranks P_law_come_ranks [] := T.F_law_come_ranks.binds fun _ _ _ _ _ _ us hl => match us, hl with | [_, _], _ => rfl
theorem Txt.b_law_due {K : PySem.W.Frag} {mg : Str → Option Value} (T : Txt K mg) : Binds K T.d_law_due P_law_due [] := T.F_law_due.binds fun _ _ _ _ _ _ us hl => match us, hl with | [_, _, _], _ => rfl
theorem Txt.b_law_told {K : PySem.W.Frag} {mg : Str → Option Value} (T : Txt K mg) : Binds K T.d_law_told P_law_told [] := T.F_law_told.binds fun _ _ _ _ _ _ us hl => match us, hl with | [_, _], _ => rfl
theorem Txt.blaw {K : PySem.W.Frag} {mg : Str → Option Value} (T : Txt K mg) : Binds K T.dlaw Plaw [] := T.Flaw.binds fun _ _ _ _ _ _ us hl => match us, hl with | [_], _ => rfl
end NL

namespace NL
open PySem PySem.Spec PyProof.Rows L2

/-! ### frames: what stays while the list of draws at d is used up -/
structure Go (d : Addr) (H H' : Hp) : Prop where
  fr : ∀ b o, b ≠ d → H b = some o → H' b = some o
  dr : ∃ ns : List Int, H' d = some (.lst (ns.map V.int))
abbrev Dr (H : Hp) (d : Addr) : Prop := ∃ ns : List Int, H d = some (.lst (ns.map V.int))
theorem Go.refl {d : Addr} {H : Hp} (h : Dr H d) : Go d H H := ⟨fun _ _ _ e => e, h⟩
theorem Go.trans {d : Addr} {H H1 H2 : Hp} (a : Go d H H1) (b : Go d H1 H2) : Go d H H2 := ⟨fun c o n e => b.fr c o n (a.fr c o n e), b.dr⟩
theorem Go.new {d p : Addr} {H : Hp} {o : HO} (h : Dr H d) (hp : H p = none) : Go d H (upd H p o) := by
  obtain ⟨ns, e⟩ := h
  have n : d ≠ p := ne_of_none e hp
  exact ⟨fun b u _ q => by rw [upd_ne (ne_of_none q hp)]; exact q, ⟨ns, by rw [upd_ne n]; exact e⟩⟩
theorem Go.put {d : Addr} {H : Hp} (ns : List Int) : Go d H (upd H d (.lst (ns.map V.int))) := ⟨fun b u n q => by rw [upd_ne n]; exact q, ⟨ns, upd_same⟩⟩
theorem Go.same {d : Addr} {H H' : Hp} (h : Dr H d) (s : Same H H') : Go d H H' := ⟨fun b o _ e => s b o e, by obtain ⟨ns, e⟩ := h; exact ⟨ns, s _ _ e⟩⟩
theorem Go.tup {d a : Addr} {H H' : Hp} {xs : List V} (g : Go d H H') (h : Dr H d) (e : H a = some (.tup xs)) : H' a = some (.tup xs) := by
  refine g.fr a _ ?_ e
  rintro rfl
  obtain ⟨ns, q⟩ := h
  rw [e] at q; cases q
theorem same_new {H : Hp} {p : Addr} (h : H p = none) (o : HO) : Same H (upd H p o) := fun b u q => by rw [upd_ne (ne_of_none q h)]; exact q
/-- all tuples stay -/
def Tp (H H' : Hp) : Prop := ∀ a xs, H a = some (.tup xs) → H' a = some (.tup xs)
theorem Go.tp {d : Addr} {H H' : Hp} (g : Go d H H') (h : Dr H d) : Tp H H' := fun _ _ e => g.tup h e
theorem Tp.same {H H' : Hp} (s : Same H H') : Tp H H' := fun _ _ e => s _ _ e
theorem Tp.trans {H H1 H2 : Hp} (a : Tp H H1) (b : Tp H1 H2) : Tp H H2 := fun x y e => b x y (a x y e)
theorem Tp.refl {H : Hp} : Tp H H := fun _ _ e => e
/-- a list that stays readable whatever is drawn at d -/
def Keep (K : PySem.W.Frag) (d : Addr) (H : Hp) (a : Addr) (xs : List V) : Prop := ∀ H', (∀ b o, b ≠ d → H b = some o → H' b = some o) → SqL K H' a xs
theorem Keep.now {K : PySem.W.Frag} {d a : Addr} {H : Hp} {xs : List V} (k : Keep K d H a xs) : SqL K H a xs := k H fun _ _ _ e => e
theorem Keep.go {K : PySem.W.Frag} {d a : Addr} {H H' : Hp} {xs : List V} (k : Keep K d H a xs) (g : Go d H H') : Keep K d H' a xs := fun H2 f => k H2 fun b o n e => f b o n (g.fr b o n e)
theorem Keep.of {K : PySem.W.Frag} {d a : Addr} {H : Hp} {xs : List V} (n : a ≠ d) (h : H a = some (.lst xs)) : Keep K d H a xs := fun H' f => .inl (.inl (f a _ n h))
/-- what was read ahead of the draws' list stays -/
theorem Keep.old {K : PySem.W.Frag} {d a : Addr} {H0 H : Hp} {xs : List V} (h : SqL K H0 a xs) (hd : H0 d = none) (f : ∀ b o, H0 b = some o → H b = some o) : Keep K d H a xs := fun H' g => by
  rcases h with (h | ⟨o, h⟩) | h
  · exact .inl (.inl (g a _ (ne_of_none h hd) (f _ _ h)))
  · exact .inl (.inr ⟨o, g a _ (ne_of_none h hd) (f _ _ h)⟩)
  · exact .inr h

/-! ### rules whose written part is named (in a comprehension) -/
theorem ix_tupK {X : Cx} {K : PySem.W.Frag} (h : X.K = K) : IxR X (rIxT K) := by subst h; exact ix_tup
theorem ix_listK {X : Cx} {K : PySem.W.Frag} (h : X.K = K) : IxR X (rIxL K) := by subst h; exact ix_list
def rTupOf (K : PySem.W.Frag) : List V → Hp → VK → Prop := fun xs H Q => ∃ p ys, xs = [.ref p] ∧ ((SqL K H p ys ∧ ∀ l, H l = none → Q (.ref l) (upd H l (.tup ys))) ∨ (SqT K H p ys ∧ Q (.ref p) H))
theorem call_tuple_ofK {X : Cx} {K : PySem.W.Frag} (h : X.K = K) : CallR X (.type "tuple") (rTupOf K) := by subst h; exact call_tuple_of
/-! ### texts and words -/
/-- signs a to z alone -/
def Wd (z : Str) : Prop := ∀ c ∈ z.cps.toList, 97 ≤ c ∧ c ≤ 122
instance (z : Str) : Decidable (Wd z) := by unfold Wd; infer_instance
def res : List Str := ["true", "false", "add", "sub", "mul", "div", "mod", "min", "max", "abs", "if", "less", "equal", "not", "all", "any"]
theorem app_list (a b : Str) : (a ++ b).cps.toList = a.cps.toList ++ b.cps.toList := by
  show (a.cps ++ b.cps).toList = _
  simp
theorem len_list (a : Str) : a.length = a.cps.toList.length := by
  show a.cps.size = _
  simp
theorem len_app (a b : Str) : (a ++ b).length = a.length + b.length := by
  rw [len_list, app_list, List.length_append, ← len_list, ← len_list]
theorem str_ext {a b : Str} (h : a.cps.toList = b.cps.toList) : a = b := by
  cases a with | mk x => cases b with | mk y =>
  have : x = y := Array.toList_inj.mp h
  rw [this]
theorem Wd.app {a b : Str} (ha : Wd a) (hb : Wd b) : Wd (a ++ b) := fun c hc => by
  rw [app_list] at hc
  rcases List.mem_append.mp hc with h | h
  · exact ha c h
  · exact hb c h
structure Nam (z : Str) : Prop where
  wd : Wd z
  len : 0 < z.length ∧ z.length ≤ 200
  nr : z ∉ res
structure Nm (z : Str) : Prop where
  wd : Wd z
  len : 0 < z.length ∧ z.length ≤ 150

/-! ### lists at an index -/
theorem atI_mem {α : Type} {xs : List α} {i : Int} (h0 : 0 ≤ i) (h1 : i < xs.length) : ∃ v, atI xs i = some v ∧ v ∈ xs := by
  have hk : i.toNat < xs.length := by omega
  have ek : i = ((i.toNat : Nat) : Int) := by omega
  have q : atI xs ((i.toNat : Nat) : Int) = some xs[i.toNat] := atI_nat (List.getElem?_eq_getElem hk)
  rw [← ek] at q
  exact ⟨_, q, List.getElem_mem hk⟩
theorem atI_map {α β : Type} {f : α → β} {xs : List α} {i : Int} (h0 : 0 ≤ i) (h1 : i < xs.length) : ∃ v, atI (xs.map f) i = some (f v) ∧ v ∈ xs := by
  obtain ⟨v, h, m⟩ := atI_mem (xs := xs.map f) h0 (by rw [List.length_map]; exact h1)
  obtain ⟨u, hu, rfl⟩ := List.mem_map.mp m
  exact ⟨u, h, hu⟩
theorem sqd {K : PySem.W.Frag} {H : Hp} {a : Addr} {xs : List V} (h : H a = some (.lst xs)) : SqL K H a xs := .inl (.inl h)
theorem sqt {K : PySem.W.Frag} {H : Hp} {a : Addr} {xs : List V} (h : H a = some (.tup xs)) : SqT K H a xs := .inl (.inl h)
theorem int_eq {i j : Int} (h : decide (V.int i = V.int j) = true) : i = j := V.int.inj (of_decide_eq_true h)
theorem int_ne {i j : Int} (h : ¬ decide (V.int i = V.int j) = true) : i ≠ j := fun e => h (decide_eq_true (by rw [e]))
section
variable {P : Program} {w : World} {K : PySem.W.Frag} {mg : Str → Option Value} {base : Heap}
/-! ### _law_take -/
def spTake : Sp := fun vs H Q _ => ∃ (d : Addr) (m : Int), vs = [.ref d, .int m] ∧ Dr H d ∧ 0 < m ∧ ∀ r H', Go d H H' → 0 ≤ r → r < m → Q (.int r) H'
theorem ok_law_take (T : Txt K mg) : FnOk P w K mg base CX0 1 T.a_law_take T.d_law_take P_law_take spTake := by
  refine T.F_law_take.ok sc_law_take (fun vs H Q E h => ?_) (fun cdv A outer s H vs Q E hr h => ?_)
  · obtain ⟨d, m, rfl, _⟩ := h
    rfl
  obtain ⟨d, m, rfl, hD, hm, q⟩ := h
  refine ⟨_, (pss_cons (ps_if (pt_cmpR op_eq (pe_callB call_len_seq (by rfl) T.z_len PySem.boot_len (pa_cons (pv 0) pa_nil)) pe_int (nomark _))
    (pss_one (ps_ret pe_int))
    pss_nil)
    (pss_one (ps_ret (pe_op op_mod (pe_callTy call_int1 (by rfl) T.z_int (by decide +kernel) (pa_cons (pe_bm0 PySem.F.plainAttrs_list PySem.F.slot_list_pop PySem.F.type_list_pop mt_pop (pv 0)) pa_nil)) (pv 1))))), ?_⟩
  obtain ⟨ns, hd⟩ := hD
  refine ⟨_, rfl, _, _, rfl, .inl (sqd hd), rfl, _, rfl, ?_⟩
  refine ite2 (fun c => ?_) (fun c => ?_)
  · exact q 0 H (Go.refl ⟨ns, hd⟩) (Int.le_refl 0) hm
  · have hn := int_ne c
    rw [List.length_map] at hn
    have hz : ns ≠ [] := by
      rintro rfl
      exact hn rfl
    have hl : 0 < ns.length := List.length_pos_iff.mpr hz
    have he : (ns.map V.int)[(ns.map V.int).length - 1]? = some (.int ns[ns.length - 1]) := by
      rw [List.length_map, List.getElem?_map, List.getElem?_eq_getElem (by omega)]
      rfl
    refine ⟨_, rfl, .inl ⟨rfl, _, sqd hd⟩, _, _, _, rfl, rfl, hd, he, .inl ⟨_, rfl, ?_⟩⟩
    refine ⟨_, rfl, _, _, rfl, rfl, hm, ?_⟩
    refine q _ _ ?_ (Int.emod_nonneg _ (by omega)) (Int.emod_lt_of_pos _ hm)
    rw [← List.map_dropLast]
    exact Go.put _
end
end NL

namespace NL
open PySem PySem.Spec PyProof.Rows L2
theorem yes_if {σ : L2.St} {H : Hp} {a n : Hp → Prop} (h : a H) : tYes σ H (fun b H3 => if b = true then a H3 else n H3) := by
  show (if true = true then a H else n H)
  rw [if_pos rfl]
  exact h
/-- one reading for two ways -/
theorem cutP {B C : Prop} (f : B → C) (b : B) : C := f b
theorem ifT {c : Bool} {A B : Prop} (h : c = true) (a : A) : if c = true then A else B := by
  rw [if_pos h]; exact a
theorem ifF {c : Bool} {A B : Prop} (h : c = false) (b : B) : if c = true then A else B := by
  rw [if_neg (by rw [h]; exact Bool.false_ne_true)]; exact b
theorem atI0 {α : Type} {x : α} {r : List α} : atI (x :: r) 0 = some x := atI_nat (j := 0) rfl
theorem atI1 {α : Type} {x y : α} {r : List α} : atI (x :: y :: r) 1 = some y := atI_nat (j := 1) rfl
theorem boolE {Q : VK} {b b' : Bool} {H : Hp} (h : b = b') (q : Q (.bl b') H) : Q (.bl b) H := by rw [h]; exact q
theorem big {n : Nat} (h : n ≤ 1000000) : n ≤ sizeLine := Nat.le_trans h (by decide)
theorem big' {n : Nat} (h : n ≤ 1000000) : n < sizeLine := Nat.lt_of_le_of_lt h (by decide)
theorem int_in {x : Int} {l : List Int} : inV (.int x) (l.map V.int) = decide (x ∈ l) := by
  unfold inV
  rw [List.any_map]
  induction l with
  | nil => rfl
  | cons a r ih =>
    rw [List.any_cons, ih]
    show (eqV (.int a) (.int x) || _) = _
    have e : eqV (.int a) (.int x) = decide (x = a) := by
      show (a == x) = _
      rw [Bool.beq_eq_decide_eq]
      exact decide_eq_decide.mpr ⟨fun h => h.symm, fun h => h.symm⟩
    rw [e, ← Bool.decide_or]
    exact decide_eq_decide.mpr List.mem_cons.symm
theorem flat_ints' (l : List Int) : (l.map V.int).all flatV = true := by
  induction l with
  | nil => rfl
  | cons a r ih => rw [List.map_cons, List.all_cons, ih]; rfl
theorem notIn_int {x : Int} {l : List Int} : (if true = true then !inV (V.int x) (l.map V.int) else inV (V.int x) (l.map V.int)) = !decide (x ∈ l) := by
  rw [if_pos rfl, int_in]
def rLenK (K : PySem.W.Frag) : List V → Hp → VK → Prop := fun xs H Q => ∃ p ys, xs = [.ref p] ∧ (SqL K H p ys ∨ SqT K H p ys) ∧ Q (.int (ys.length : Nat)) H
theorem call_len_seqK {X : Cx} {K : PySem.W.Frag} (h : X.K = K) : CallR X (.builtin "len") (rLenK K) := by
  subst h
  exact call_len_seq
end NL

namespace NL
open PySem PySem.Spec PyProof.Rows L2
theorem ixN_in {n : Nat} {k : Int} (h0 : 0 ≤ k) (h1 : k < n) : ixN n k = some k.toNat := by
  unfold ixN
  rw [if_pos h0, if_pos h1]
/-- a change at what was not there before -/
theorem same_put {H H' : Hp} {p : Addr} {o : HO} (s : Same H H') (hp : H p = none) : Same H (upd H' p o) := fun b u e => by
  rw [upd_ne (ne_of_none e hp)]
  exact s b u e
section
variable {P : Program} {w : World} {K : PySem.W.Frag} {mg : Str → Option Value} {base : Heap}
def spDraws (K : PySem.W.Frag) : Sp := fun vs H Q _ => ∃ (a : Addr) (ns : List Int) (m : Int), vs = [.ref a, .int m] ∧ SqL K H a (ns.map V.int) ∧ ns.length ≤ 63 ∧ 0 ≤ m ∧ m ≤ 10000 ∧
  ∀ d H', Same H H' → H d = none → Dr H' d → Q (.ref d) H'
theorem ok_law_draws (T : Txt K mg) : FnOk P w K mg base CX0 1 T.a_law_draws T.d_law_draws P_law_draws (spDraws K) := by
  refine T.F_law_draws.ok sc_law_draws (fun vs H Q E h => ?_) (fun cdv A outer s H vs Q E hr h => ?_)
  · obtain ⟨a, ns, m, rfl, _⟩ := h
    rfl
  obtain ⟨a, ns, m, rfl, hS, hl, m0, m1, q⟩ := h
  refine ⟨_, (pss_cons (ps_setLc (i := 2) (own := [("cell", 3)]) (g := (gName 3)) (tt := tYes) rfl sc_law_draws.nd rfl rfl (sw_true rfl rfl rfl (by decide +kernel)) (pi_list (pv 0)) (blkOk_by (N := N_law_draws) (sc := defScope s_law_draws) (by decide +kernel)) (fun _ _ _ _ _ => (pg_name (i := 3) sc_law_draws.nd rfl (Or.inl rfl))) (fun _ _ _ _ _ => pts_nil) (fun _ _ _ _ _ => (pe_callTy call_int1 (by rfl) T.z_int (by decide +kernel) (pa_cons (pv 3) pa_nil))))
    (C8.pss_cut (ps_if (pt_cmpR op_eq (pe_callB call_len_seq (by rfl) T.z_len PySem.boot_len (pa_cons (pv 2) pa_nil)) pe_int (nomark _))
    (pss_one (ps_expr (pe_bm PySem.F.plainAttrs_list PySem.F.slot_list_append PySem.F.type_list_append mt_append (pv 2) (pa_cons pe_int pa_nil))))
    pss_nil)
    (pss_cons (ps_set (i := 4) sc_law_draws.nd rfl (Or.inl rfl) (pe_callTy call_list_of (by rfl) T.z_list (by decide +kernel) (pa_cons (pv 2) pa_nil)))
    (pss_cons (ps_set (i := 5) sc_law_draws.nd rfl (Or.inl rfl) (pe_lst pa_nil))
    (pss_cons (ps_for  PassesOwn.never rfl (pi_range1 (by rfl) T.z_range (pa_cons (pv 1) pa_nil)) (pg_name (i := 6) sc_law_draws.nd rfl (Or.inl rfl))
    (pss_cons (ps_set (i := 7) sc_law_draws.nd rfl (Or.inl rfl) (pe_op op_mod (pv 6) (pe_callB call_len_seq (by rfl) T.z_len PySem.boot_len (pa_cons (pv 2) pa_nil))))
    (pss_one (ps_if (pt_cmpR op_ge (pe_ix ix_list (pv 2) (pv 7) (fun _ _ => rfl)) (pe_op op_pow pe_int pe_int) (nomark _))
    (pss_cons (ps_expr (pe_bm PySem.F.plainAttrs_list PySem.F.slot_list_append PySem.F.type_list_append mt_append (pv 5) (pa_cons (pe_op op_mod (pe_callTy call_int1 (by rfl) T.z_int (by decide +kernel) (pa_cons (pe_ix ix_list (pv 4) (pv 7) (fun _ _ => rfl)) pa_nil)) pe_int) pa_nil)))
    (pss_one (ps_asg (pe_op op_fdiv (pe_ix ix_list (pv 4) (pv 7) (fun _ _ => rfl)) pe_int) (pg_sub (pv 4) (pv 7) set_list))))
    (pss_cons (ps_set (i := 8) sc_law_draws.nd rfl (Or.inl rfl) (pe_op op_mod (pe_callTy call_int1 (by rfl) T.z_int (by decide +kernel) (pa_cons (pe_op op_add (pe_op op_add (pe_op op_mul (pe_ix ix_list (pv 2) (pv 7) (fun _ _ => rfl)) pe_int) (pe_op op_mul (pv 6) pe_int)) pe_int) pa_nil)) pe_int))
    (pss_one (ps_expr (pe_bm PySem.F.plainAttrs_list PySem.F.slot_list_append PySem.F.type_list_append mt_append (pv 5) (pa_cons (pe_op op_mod (pe_callTy call_int1 (by rfl) T.z_int (by decide +kernel) (pa_cons (pe_op op_add (pe_op op_add (pe_op op_mul (pv 8) (pv 8)) (pe_op op_mul pe_int (pv 8))) (pv 6)) pa_nil)) pe_int) pa_nil)))))))))
    (pss_cons (ps_expr (pe_bm0 PySem.F.plainAttrs_list PySem.F.slot_list_reverse PySem.F.type_list_reverse mt_reverse (pv 5)))
    (pss_one (ps_ret (pv 5))))))))), ?_⟩
  -- cells
  refine ⟨_, rfl, a, rfl, ⟨_, hS⟩, fun c hc => ?_⟩
  refine lc_list (K := K) (a := a) (xs := ns.map V.int) (fun (j : Nat) (H' : Hp) => Same H H' ∧ H' c = some (.lst ((ns.take j).map V.int))) ?_ ?_ ?_ ?_
  · exact ⟨same_new hc _, by rw [upd_same, List.take_zero]; rfl⟩
  · rintro i H' _ ⟨s1, _⟩
    exact s1.seq hS
  · rintro i x H' hx ⟨s1, e1⟩
    rw [List.getElem?_map] at hx
    cases hn : ns[i]? with
    | none => rw [hn] at hx; cases hx
    | some n =>
      rw [hn] at hx
      obtain rfl : V.int n = x := Option.some.inj hx
      refine ⟨rfl, yes_if ?_⟩
      refine ⟨_, rfl, .inl ⟨n, rfl, _, e1, ?_, same_put s1 hc, ?_⟩⟩
      · rw [List.length_map, List.length_take]
        exact big' (by omega)
      · rw [upd_same, List.take_add_one, hn, List.map_append]
        rfl
  · rintro H1 ⟨s1, e1⟩
    rw [List.length_map, List.take_length] at e1
    -- at least one cell
    refine ⟨fun σ H2 => ∃ cs : List Int, cs ≠ [] ∧ cs.length ≤ 63 ∧ σ = [some (.ref a), some (.int m), some (.ref c), none, none, none, none, none, none] ∧ Same H H2 ∧ H2 c = some (.lst (cs.map V.int)), ?_, ?_⟩
    · refine ⟨_, rfl, _, _, rfl, .inl (sqd e1), rfl, _, rfl, ?_⟩
      refine ite2 (fun z => ?_) (fun z => ?_)
      · refine ⟨_, rfl, .inl ⟨rfl, _, sqd e1⟩, c, _, _, rfl, rfl, e1, ?_, ?_⟩
        · rw [List.length_map]
          exact big' (by omega)
        · have hz := int_eq z
          rw [List.length_map] at hz
          have : ns = [] := List.length_eq_zero_iff.mp (by omega)
          subst this
          exact ⟨[0], by simp, by decide, rfl, same_put s1 hc, upd_same⟩
      · have hz := int_ne z
        rw [List.length_map] at hz
        refine ⟨ns, ?_, hl, rfl, s1, e1⟩
        rintro rfl
        exact hz rfl
    · rintro σ H2 ⟨cs, hcs, hcl, rfl, s2, e2⟩
      have hpos : 0 < cs.length := List.length_pos_iff.mpr hcs
      -- rest, draws
      refine ⟨_, rfl, _, _, rfl, .inl (sqd e2), fun r hr2 => ?_⟩
      have ncr : c ≠ r := ne_of_none e2 hr2
      refine ⟨(Nat.le_of_ble_eq_true rfl), fun d hd => ?_⟩
      have ncd : c ≠ d := ne_of_none (by rw [upd_ne ncr]; exact e2) hd
      have nrd : r ≠ d := ne_of_none upd_same hd
      have hHr : H r = none := s2.free hr2
      have hHd : H d = none := (s2.trans (same_new hr2 _)).free hd
      refine ⟨_, rfl, m, rfl, by omega, by omega, for_range (lo := 0) (n := m.toNat) (fun (j : Nat) (σ : L2.St) (H' : Hp) => ∃ (rs ds : List Int) (y1 y2 y3 : Option V), σ = [some (.ref a), some (.int m), some (.ref c), none, some (.ref r), some (.ref d), y1, y2, y3] ∧ Same H H' ∧ H' c = some (.lst (cs.map V.int)) ∧ H' r = some (.lst (rs.map V.int)) ∧ rs.length = cs.length ∧ H' d = some (.lst (ds.map V.int)) ∧ ds.length ≤ j) ?_ ?_ ?_⟩
      · refine ⟨cs, [], none, none, none, rfl, (s2.trans (same_new hr2 _)).trans (same_new hd _), ?_, ?_, rfl, upd_same, Nat.le_refl _⟩
        · rw [upd_ne ncd, upd_ne ncr]; exact e2
        · rw [upd_ne nrd]; exact upd_same
      · rintro j σ H' hj ⟨rs, ds, y1, y2, y3, rfl, s3, ec, er, hrl, ed, hdl⟩
        have b0 := Int.emod_nonneg ((0 : Int) + (j : Int)) (show (((cs.map V.int).length : Nat) : Int) ≠ 0 by rw [List.length_map]; omega)
        have b1 : (((0 : Int) + (j : Int)) % (((cs.map V.int).length : Nat) : Int)) < (cs.length : Int) := by
          have h := Int.emod_lt_of_pos ((0 : Int) + (j : Int)) (show 0 < (((cs.map V.int).length : Nat) : Int) by rw [List.length_map]; omega)
          rw [List.length_map] at h ⊢
          exact h
        refine ⟨_, rfl, _, rfl, _, _, rfl, .inl (sqd ec), _, _, rfl, rfl, (by show 0 < (((cs.map V.int).length : Nat) : Int); rw [List.length_map]; omega), ?_⟩
        obtain ⟨cv, hcv, _⟩ := atI_map (f := V.int) (xs := cs) b0 b1
        obtain ⟨rv, hrv, _⟩ := atI_map (f := V.int) (xs := rs) b0 (by omega)
        refine ⟨_, rfl, _, rfl, _, _, _, _, rfl, rfl, sqd ec, hcv, _, _, rfl, rfl, ⟨by decide, by decide, by decide⟩, _, _, rfl, rfl, _, rfl, ?_⟩
        refine ite2 (fun z => ?_) (fun z => ?_)
        · refine ⟨_, rfl, .inl ⟨rfl, _, sqd ed⟩, _, rfl, _, rfl, _, _, _, _, rfl, rfl, sqd er, hrv, .inl ⟨_, rfl, _, _, rfl, rfl, (by show (0 : Int) < 1000; decide), d, _, _, rfl, rfl, ed, ?_, ?_⟩⟩
          · rw [List.length_map]
            exact big' (by omega)
          · have er2 : ∀ o, (upd H' d o) r = some (.lst (rs.map V.int)) := fun o => by rw [upd_ne nrd]; exact er
            refine ⟨_, rfl, _, rfl, _, _, _, _, rfl, rfl, sqd (er2 _), hrv, _, _, rfl, rfl, ⟨by decide, by decide⟩, _, rfl, _, rfl, r, _, _, _, rfl, rfl, er2 _, ixN_in b0 (by have h : (rs.map V.int).length = rs.length := List.length_map _; omega), ?_⟩
            refine ⟨rs.set (((0 : Int) + (j : Int)) % (((cs.map V.int).length : Nat) : Int)).toNat (rv / 1000), ds ++ [rv % 1000], _, _, _, rfl, same_put (same_put s3 hHd) hHr, ?_, ?_, ?_, ?_, ?_⟩
            · rw [upd_ne ncr, upd_ne ncd]; exact ec
            · rw [upd_same, List.map_set]
            · rw [List.length_set]; exact hrl
            · rw [upd_ne nrd.symm, upd_same, List.map_append]; rfl
            · rw [List.length_append, List.length_singleton]; omega
        · have o0 := fun z : Int => Int.emod_nonneg z (by decide : (2147483647 : Int) ≠ 0)
          have o1 := fun z : Int => Int.emod_lt_of_pos z (by decide : (0 : Int) < 2147483647)
          refine ⟨_, rfl, _, rfl, _, _, _, _, rfl, rfl, sqd ec, hcv, _, _, rfl, rfl, .inr ⟨by decide, by decide⟩, _, rfl, _, _, rfl, rfl, .inr ⟨by decide, by decide⟩, _, _, rfl, rfl, _, _, rfl, rfl, .inl ⟨_, rfl, _, _, rfl, rfl, (by show (0 : Int) < 2147483647; decide), ?_⟩⟩
          refine ⟨_, rfl, .inl ⟨rfl, _, sqd ed⟩, _, rfl, _, rfl, _, _, rfl, rfl, ?_, ?_⟩
          · left
            have h1 := o0 (cv * 48271 + (0 + (j : Int)) * 69621 + 11)
            have h2 := o1 (cv * 48271 + (0 + (j : Int)) * 69621 + 11)
            constructor
            · show -(2 ^ 64) < _
              omega
            · show _ < 2 ^ 64
              omega
          · refine ⟨_, rfl, _, _, rfl, rfl, .inl ⟨by decide, by decide⟩, _, _, rfl, rfl, _, rfl, _, _, rfl, rfl, .inl ⟨_, rfl, _, _, rfl, rfl, (by show (0 : Int) < 1000003; decide), d, _, _, rfl, rfl, ed, ?_, ?_⟩⟩
            · rw [List.length_map]
              exact big' (by omega)
            · refine ⟨rs, ds ++ [(((cv * 48271 + (0 + (j : Int)) * 69621 + 11) % 2147483647) * ((cv * 48271 + (0 + (j : Int)) * 69621 + 11) % 2147483647) + 3 * ((cv * 48271 + (0 + (j : Int)) * 69621 + 11) % 2147483647) + (0 + (j : Int))) % 1000003], _, _, _, rfl, same_put s3 hHd, ?_, ?_, hrl, ?_, ?_⟩
              · rw [upd_ne ncd]; exact ec
              · rw [upd_ne nrd]; exact er
              · rw [upd_same, List.map_append]; rfl
              · rw [List.length_append, List.length_singleton]; omega
      · rintro σ H' ⟨rs, ds, y1, y2, y3, rfl, s3, ec, er, hrl, ed, hdl⟩
        refine ⟨_, rfl, .inl ⟨rfl, _, sqd ed⟩, d, _, rfl, rfl, ed, ?_⟩
        refine ⟨_, rfl, q d _ (same_put s3 hHd) hHd ⟨ds.reverse, ?_⟩⟩
        rw [upd_same, List.map_reverse]
end
end NL

namespace NL
open PySem PySem.Spec PyProof.Rows L2
/-! ### rows and what stands in them -/
def Each {α : Type} (R : α → V → Prop) (l : List α) (xs : List V) : Prop := xs.length = l.length ∧ ∀ (k : Nat) a x, l[k]? = some a → xs[k]? = some x → R a x
theorem Each.nil {α : Type} {R : α → V → Prop} : Each R [] [] := ⟨rfl, fun k a x h => by simp at h⟩
theorem Each.mono {α : Type} {R S : α → V → Prop} {l : List α} {xs : List V} (h : Each R l xs) (f : ∀ a x, R a x → S a x) : Each S l xs := ⟨h.1, fun k a x e g => f a x (h.2 k a x e g)⟩
theorem Each.cons {α : Type} {R : α → V → Prop} {l : List α} {xs : List V} {a : α} {x : V} (r : R a x) (h : Each R l xs) : Each R (a :: l) (x :: xs) := ⟨by rw [List.length_cons, List.length_cons, h.1], fun k b y e g => by
  cases k with
  | zero => cases e; cases g; exact r
  | succ k => exact h.2 k b y e g⟩
theorem Each.app {α : Type} {R : α → V → Prop} {l m : List α} {xs ys : List V} (h : Each R l xs) (g : Each R m ys) : Each R (l ++ m) (xs ++ ys) := by
  refine ⟨by rw [List.length_append, List.length_append, h.1, g.1], fun k r x e f => ?_⟩
  by_cases hk : k < l.length
  · rw [List.getElem?_append_left hk] at e
    rw [List.getElem?_append_left (by rw [h.1]; exact hk)] at f
    exact h.2 k r x e f
  · rw [List.getElem?_append_right (by omega)] at e
    rw [List.getElem?_append_right (by rw [h.1]; omega), h.1] at f
    exact g.2 _ r x e f
theorem Each.snoc {α : Type} {R : α → V → Prop} {l : List α} {xs : List V} {a : α} {x : V} (h : Each R l xs) (r : R a x) : Each R (l ++ [a]) (xs ++ [x]) := h.app (.cons r .nil)
theorem Each.take {α : Type} {R : α → V → Prop} {l : List α} {xs : List V} (h : Each R l xs) (n : Nat) : Each R (l.take n) (xs.take n) := ⟨by rw [List.length_take, List.length_take, h.1], fun k a x e g => by
  rw [List.getElem?_take] at e g
  split at e
  · rename_i hk
    rw [if_pos hk] at g
    exact h.2 k a x e g
  · cases e⟩
theorem Each.drop {α : Type} {R : α → V → Prop} {l : List α} {xs : List V} (h : Each R l xs) (n : Nat) : Each R (l.drop n) (xs.drop n) := ⟨by rw [List.length_drop, List.length_drop, h.1], fun k a x e g => by
  rw [List.getElem?_drop] at e g
  exact h.2 _ a x e g⟩
theorem Each.set {α : Type} {R : α → V → Prop} {l : List α} {xs : List V} {a : α} {x : V} (h : Each R l xs) (n : Nat) (r : R a x) : Each R (l.set n a) (xs.set n x) := ⟨by rw [List.length_set, List.length_set, h.1], fun k b y e g => by
  rw [List.getElem?_set] at e g
  by_cases hk : n = k
  · rw [if_pos hk] at e g
    by_cases hl : n < l.length
    · rw [if_pos hl] at e
      rw [if_pos (by rw [h.1]; exact hl)] at g
      cases e; cases g; exact r
    · rw [if_neg hl] at e
      cases e
  · rw [if_neg hk] at e g
    exact h.2 k b y e g⟩
theorem Each.at {α : Type} {R : α → V → Prop} {l : List α} {xs : List V} {a : α} {k : Nat} (h : Each R l xs) (e : l[k]? = some a) : ∃ x, xs[k]? = some x ∧ R a x := by
  have hk : k < xs.length := by
    rw [h.1]
    exact (List.getElem?_eq_some_iff.mp e).1
  exact ⟨_, List.getElem?_eq_getElem hk, h.2 k a _ e (List.getElem?_eq_getElem hk)⟩
theorem Each.atI {α : Type} {R : α → V → Prop} {l : List α} {xs : List V} {i : Int} (h : Each R l xs) (h0 : 0 ≤ i) (h1 : i < l.length) : ∃ a x, l[i.toNat]? = some a ∧ atI xs i = some x ∧ R a x := by
  have hk : i.toNat < l.length := by omega
  obtain ⟨x, hx, r⟩ := h.at (List.getElem?_eq_getElem hk)
  have q : L2.atI xs ((i.toNat : Nat) : Int) = some x := atI_nat hx
  rw [show ((i.toNat : Nat) : Int) = i by omega] at q
  exact ⟨_, x, List.getElem?_eq_getElem hk, q, r⟩
/-! ### options, positions, arenas -/
abbrev Opt := List Int
abbrev Pos' := List Opt
abbrev Ar := List Pos'
def OptIn (H : Hp) (o : Opt) (v : V) : Prop := ∃ b, v = .ref b ∧ H b = some (.tup (o.map V.int))
def PosIn (H : Hp) (os : Pos') (v : V) : Prop := ∃ b xs, v = .ref b ∧ H b = some (.tup xs) ∧ Each (OptIn H) os xs
def ArIn (H : Hp) (A : Ar) (v : V) : Prop := ∃ b xs, v = .ref b ∧ H b = some (.tup xs) ∧ Each (PosIn H) A xs
theorem OptIn.tp {H H' : Hp} {o : Opt} {v : V} (t : Tp H H') (h : OptIn H o v) : OptIn H' o v := by
  obtain ⟨b, e, q⟩ := h
  exact ⟨b, e, t _ _ q⟩
theorem PosIn.tp {H H' : Hp} {o : Pos'} {v : V} (t : Tp H H') (h : PosIn H o v) : PosIn H' o v := by
  obtain ⟨b, xs, e, q, r⟩ := h
  exact ⟨b, xs, e, t _ _ q, r.mono fun a x => OptIn.tp t⟩
theorem ArIn.tp {H H' : Hp} {o : Ar} {v : V} (t : Tp H H') (h : ArIn H o v) : ArIn H' o v := by
  obtain ⟨b, xs, e, q, r⟩ := h
  exact ⟨b, xs, e, t _ _ q, r.mono fun a x => PosIn.tp t⟩
/-- an option of an arena with n positions -/
structure OptG (n : Int) (o : Opt) : Prop where
  ne : o ≠ []
  len : o.length ≤ 60
  mem : ∀ s ∈ o, -1 ≤ s ∧ s < n
  asc : o.Pairwise (· < ·)
def PosG (n : Int) (os : Pos') : Prop := os.length ≤ 12 ∧ ∀ o ∈ os, OptG n o
def ArG (A : Ar) : Prop := A.length ≤ 400 ∧ ∀ os ∈ A, PosG A.length os
theorem OptG.one {n s : Int} (h0 : -1 ≤ s) (h1 : s < n) : OptG n [s] := ⟨by simp, by simp, fun t ht => by rw [List.mem_singleton.mp ht]; exact ⟨h0, h1⟩, List.pairwise_singleton _ _⟩
theorem asc_of {l m : List Int} (h : l.Perm m) (hm : m.Nodup) (hp : l.Pairwise (· ≤ ·)) : l.Pairwise (· < ·) := by
  have hn : l.Nodup := h.nodup_iff.mpr hm
  refine (hp.and hn).imp fun {a b} h => ?_
  obtain ⟨h1, h2⟩ := h
  omega
theorem tp_put {H H' : Hp} {p : Addr} {o : List V} {o' : HO} (t : Tp H H') (h : H' p = some (.lst o)) : Tp H (upd H' p o') := fun a xs e => by
  have n : a ≠ p := fun q => by
    have := t a xs e
    rw [q, h] at this
    cases this
  rw [upd_ne n]
  exact t a xs e
theorem Go.put2 {d p : Addr} {H H' : Hp} {o : HO} (g : Go d H H') (hp : H p = none) (n : p ≠ d) : Go d H (upd H' p o) := ⟨fun b u hb e => by
  rw [upd_ne (ne_of_none e hp)]
  exact g.fr b u hb e, by
  obtain ⟨ns, e⟩ := g.dr
  exact ⟨ns, by rw [upd_ne n.symm]; exact e⟩⟩
theorem new_ne {d p : Addr} {H : Hp} (h : Dr H d) (hp : H p = none) : p ≠ d := by
  rintro rfl
  obtain ⟨ns, e⟩ := h
  rw [hp] at e
  cases e
theorem Go.free {d p : Addr} {H H' : Hp} (g : Go d H H') (hp : H' p = none) : H p = none := by
  cases e : H p with
  | none => rfl
  | some o =>
    by_cases hd : p = d
    · obtain ⟨ns, q⟩ := g.dr
      rw [hd, q] at hp
      cases hp
    · rw [g.fr p o hd e] at hp
      cases hp
end NL

namespace NL
open PySem PySem.Spec PyProof.Rows L2
theorem cut_tl {x : V} {r : List V} : cutV (x :: r) (some 1) none = r := by
  unfold cutV
  rw [show HT.sIx (x :: r).length 0 (some 1) = min 1 (x :: r).length from HT.sIx_nat _ _ 1, HT.sIx_none, List.length_cons, show min 1 (r.length + 1) = 1 by omega]
  simp
theorem asc_lt {l : List Int} (h : l.Pairwise (· < ·)) : l.Nodup := h.imp fun {a b} h e => by omega
theorem newH {H : Hp} {p : Addr} (hp : H p = none) (o : HO) : ∃ H', upd H p o = H' ∧ Same H H' ∧ H' p = some o := ⟨_, rfl, same_new hp _, upd_same⟩
section
variable {P : Program} {w : World} {K : PySem.W.Frag} {mg : Str → Option Value} {base : Heap}
/-! ### _law_great -/
def spGreat : Sp := fun vs H Q _ => ∃ d : Addr, vs = [.ref d] ∧ Dr H d ∧ ∀ v A H', Go d H H' → ArIn H' A v → ArG A → Q v H'
end
end NL

namespace NL
open PySem PySem.Spec PyProof.Rows L2
theorem ints_snoc2 (ps : List Int) (l : Int) : (ps ++ [l]).map V.int = ps.map V.int ++ [V.int l] := by
  rw [List.map_append]
  rfl
theorem at_last {α : Type} {x : α} {xs : List α} : atI (xs ++ [x]) (-1) = some x := by
  unfold atI
  rw [show ixN (xs ++ [x]).length (-1) = some xs.length by
    unfold ixN
    rw [if_neg (by decide), if_pos (by rw [List.length_append, List.length_singleton]; omega), List.length_append, List.length_singleton]
    congr 1
    omega]
  simp
theorem lc_pairs {K : PySem.W.Frag} {a b : Addr} {xs ys : List V} {g : TG} {tt : TT} {te : TE} {vs : List Nat} {σ : L2.St} {H1 : Hp} {D : Addr} {Qd : Hp → Prop} (n : Nat) (hn : n = min xs.length ys.length) (Pv : Nat → Hp → Prop) (h0 : Pv 0 (upd H1 D (.lst []))) (hq : ∀ i H, Pv i H → SqT K H a xs ∧ SqT K H b ys)
    (hs : ∀ (i : Nat) (x y : V) (t : Addr) (H : Hp), xs[i]? = some x → ys[i]? = some y → Pv i H → H t = none → g (.ref t) (wipe σ vs) (upd H t (.tup [x, y])) fun σ2 H2 => wipe σ2 vs = wipe σ vs ∧ tt σ2 H2 fun c H3 =>
      if c = true then te σ2 H3 fun z H4 => ∃ acc, H4 D = some (.lst acc) ∧ acc.length < sizeLine ∧ Pv (i + 1) (upd H4 D (.lst (acc ++ [z]))) else Pv (i + 1) H3) (hd : ∀ H, Pv n H → Qd H) :
    ∃ W : Nat → Nat → Hp → Prop, (∃ m, W 0 m (upd H1 D (.lst []))) ∧ ∀ i m H, W i m H →
      ((RZ.ItzT K a b).stop i H ∧ Qd H) ∨ ((RZ.ItzT K a b).go i H ∧ ∃ Nx : Hp → Prop, (∀ H', Nx H' → ∃ m', m' < m ∧ W (i + 1) m' H') ∧ ∀ x H', (RZ.ItzT K a b).yld i H x H' → g x (wipe σ vs) H' fun σ2 H2 => wipe σ2 vs = wipe σ vs ∧ tt σ2 H2 fun c H3 =>
        if c = true then te σ2 H3 fun z H4 => ∃ acc, H4 D = some (.lst acc) ∧ acc.length < sizeLine ∧ Nx (upd H4 D (.lst (acc ++ [z]))) else Nx H3) := by
  refine ⟨fun i m H => m + i = n ∧ Pv i H, ⟨n, rfl, h0⟩, ?_⟩
  rintro i m H ⟨hi, p⟩
  obtain ⟨qx, qy⟩ := hq i H p
  by_cases lt : i < n
  · have ex : xs[i]? = some xs[i] := List.getElem?_eq_getElem (by omega)
    have ey : ys[i]? = some ys[i] := List.getElem?_eq_getElem (by omega)
    refine .inr ⟨⟨xs, ys, _, _, qx, qy, ex, ey⟩, Pv (i + 1), fun H' p' => ⟨m - 1, by omega, by omega, p'⟩, fun v H' y => ?_⟩
    obtain ⟨t, x1, y1, rfl, ht, rfl, f1, f2⟩ := y
    exact hs i x1 y1 t H (f1 xs qx) (f2 ys qy) p ht
  · have e : i = n := by omega
    subst e
    exact .inl ⟨⟨xs, ys, qx, qy, by omega⟩, hd H p⟩
theorem op_catAK {X : Cx} {K : PySem.W.Frag} (h : X.K = K) : OpR X (binaryOp .Add) (rCatA K) := by subst h; exact op_catA
end NL

set_option maxHeartbeats 4000000
namespace NL
open PySem PySem.Spec PyProof.Rows L2
/-! ### enumerate of a tuple -/
theorem draws_tup {P : Program} {w : World} {A : Around} (cold : A.handled = none) (j l : Addr) (apart : l ≠ j) (vs : Array Value) : Draws P w A j [j, l] vs.size (fun i v => vs[i]? = some v) (fun i h => h.IsTupleIter j l i ∧ h.IsTuple l vs) where
  live := fun _ _ st => by
    obtain ⟨⟨o, ho, _⟩, _⟩ := st
    exact ⟨o, ho⟩
  frame := fun _ _ _ st hold => by
    obtain ⟨st1, o, ho, hr⟩ := st
    exact ⟨st1.at fun ob e => hold j (by simp) ob e, o, hold l (by simp) o ho, hr⟩
  item := fun i s Q E hi st hQ => by
    refine RZ.nextOf_tuple_item st.1 st.2 (x := vs[i]) (by simp [hi]) fun g st1 sb => ?_
    refine hQ _ g s.toks (by simp [hi]) ⟨st1, ?_⟩ sb
    obtain ⟨o, ho, hr⟩ := st.2
    exact ⟨o, (sb.2 l apart).trans ho, hr⟩
  done := fun s Q E st hE => RZ.nextOf_tuple_end cold st.1 st.2 (by simp) hE
theorem enum_newT (l : Addr) (vs : Array Value) :
    Meets (Builtin.«enumerate.__new__» ⟨[.type "enumerate", .ref l], []⟩) (fun _ R s => s.heap.IsTuple l vs ∧
      R (.ok (.ret (.ref (s.heap.push { cls := .type "tuple_iterator", data := .fields #[.ref l, .int 0 0] }).objs.size)))
        { s with heap := (s.heap.push { cls := .type "tuple_iterator", data := .fields #[.ref l, .int 0 0] }).push { cls := .type "enumerate", data := .fields #[.none, .bool false, .ref s.heap.objs.size, rawInt 0, .none, .none] } }) :=
  .of_wp fun P w A R s r => by
    obtain ⟨hp, gs, dr, tk, os⟩ := s
    obtain ⟨tu, r⟩ := r
    have hsub := sub_enumerate
    have T2 : Heap.IsTuple (Shared.heap ⟨hp, gs, dr, tk, os⟩) l vs := tu
    obtain ⟨⟨c, dct, dt, sl⟩, hl, hc, n, hd⟩ := tu
    replace hc : c = .type "tuple" := hc
    replace hd : dt = .seq vs n := hd
    subst hc hd
    wp_walk using AutoSeq1.wpAny_loadPart' hl
    refine wpAny_stack_any fun st => wpAny_pure ?_
    split
    · rename_i c2 _ _ _ _ _
      cases (c2 == Value.type "enumerate")
      · wp_walk using AutoSeq1.wpAny_loadPart' hl, wpAny_pyIter_tuple T2
        exact ⟨_, rfl, r⟩
      · wp_walk using AutoSeq1.wpAny_loadPart' hl, wpAny_pyIter_tuple T2
        exact ⟨_, rfl, r⟩
    · wp_walk using AutoSeq1.wpAny_loadPart' hl, wpAny_pyIter_tuple T2
      exact ⟨_, rfl, r⟩
theorem enum_callT {P : Program} {w : World} {A : Around} {E : Value → Shared → Prop} {s : Shared} {l : Addr} {vs : Array Value} {Q : Value → Shared → Prop} (tu : s.heap.IsTuple l vs)
    (k : ∀ g, IsEnum g (s.heap.objs.size + 1) s.heap.objs.size 0 .none → g.IsTupleIter s.heap.objs.size l 0 → (∀ b o, s.heap.get? b = some o → g.get? b = some o) → Q (.ref (s.heap.objs.size + 1)) { s with heap := g }) :
    wpAny (model P w) A (call (.type "enumerate") [.ref l]) Q E s := by
  refine callType_new F.called_enumerate (by decide) (F.typeCall_enumerate_1 _) (F.newCall_enumerate_1 _) (fun ob => F.args_object_init_2 ob _) F.entry_enumerate_new (enum_newT l vs) ⟨tu, ?_⟩
  have sz : (s.heap.push { cls := .type "tuple_iterator", data := .fields #[.ref l, .int 0 0] }).objs.size = s.heap.objs.size + 1 := Heap.size_push ..
  show _ ∧ _
  rw [sz]
  have isE : IsEnum ((s.heap.push { cls := .type "tuple_iterator", data := .fields #[.ref l, .int 0 0] }).push { cls := .type "enumerate", data := .fields #[.none, .bool false, .ref s.heap.objs.size, rawInt 0, .none, .none] }) (s.heap.objs.size + 1) s.heap.objs.size 0 .none := by
    have top := Heap.get?_push_size (s.heap.push { cls := .type "tuple_iterator", data := .fields #[.ref l, .int 0 0] }) (o := { cls := .type "enumerate", data := .fields #[.none, .bool false, .ref s.heap.objs.size, rawInt 0, .none, .none] }) rfl
    rw [sz] at top
    exact top
  exact ⟨⟨_, isE, rfl⟩, k _ isE ⟨_, Heap.get?_push_of_some _ (Heap.get?_push_size _ rfl), rfl, rfl⟩ fun b o e => Heap.get?_push_of_some _ (Heap.get?_push_of_some _ e)⟩
/-- the tuple at a, each item in a new pair with its number -/
def EtT (K : PySem.W.Frag) (a : Addr) : L2.It :=
  ⟨fun i H => ∃ (xs : List V) (x : V), SqT K H a xs ∧ xs[i]? = some x, fun i H v H' => ∃ t x, v = .ref t ∧ H t = none ∧ H' = upd H t (.tup [.int (i : Nat), x]) ∧ ∀ xs, SqT K H a xs → xs[i]? = some x, fun i H => ∃ xs : List V, SqT K H a xs ∧ xs.length ≤ i⟩
theorem turn_enumT {P : Program} {w : World} {K : PySem.W.Frag} {elts : List Expr} {kk : Nat} {tpos : Pos} (a e j : Addr) :
    Turn P w K (.Tuple elts kk tpos) (EtT K a) [e, j] e (fun i h => (∃ old, IsEnum h e j ((i : Nat) : Int) old) ∧ h.IsTupleIter j a i ∧ e ≠ j) where
  mem := List.mem_cons_self
  obj := by
    rintro i h ⟨⟨old, isE⟩, ⟨o, ho, hc, hd⟩, _⟩ b hb
    have hb2 : b = e ∨ b = j := by simpa using hb
    rcases hb2 with rfl | rfl
    · exact ⟨_, isE, fun v q => nomatch q⟩
    · exact ⟨o, ho, fun v q => by rw [hd] at q; cases q⟩
  keep := by
    rintro i h g ⟨⟨old, isE⟩, isT, ne⟩ hold
    exact ⟨⟨old, hold e (by simp) _ isE⟩, isT.at fun o q => hold j (by simp) o q, ne⟩
  item := by
    rintro X rfl rfl rfl hcalm i pins s σ H E hinv hfp ⟨⟨old, isE⟩, isT, ne⟩ ⟨xs, x, hq, hx⟩
    obtain ⟨its, rv, pt, hz⟩ := hinv.tuple hq
    have tu : s.heap.IsTuple a its.toArray := pt
    obtain ⟨u, hu, ru⟩ := rv.get hx
    have ha : a ≠ j := fun q => by
      obtain ⟨o, ho, hc, _⟩ := id isT
      obtain ⟨o2, ho2, hc2, _⟩ := id tu
      rw [q, ho] at ho2
      cases ho2
      rw [hc] at hc2
      exact absurd (Value.type.inj hc2) (by decide)
    have hea : e ≠ a := fun q => by
      obtain ⟨o2, ho2, hc2, _⟩ := id tu
      have isE2 : s.heap.get? e = some _ := isE
      have e3 := (congrArg s.heap.get? q).symm.trans isE2
      rw [ho2] at e3
      cases e3
      exact absurd (Value.type.inj hc2) (by decide)
    have hlt : i < its.toArray.size := by
      have := (List.getElem?_eq_some_iff.mp hu).1
      simpa using this
    have cold := hinv.ok.hd hcalm
    refine wpAny_pyNext_enum_itemD (draws_tup (A := X.A.in1) cold j a ha its.toArray) isE ⟨isT, tu⟩ hlt ne (by simp [ne, hea]) fun y g tk hy ho st1 hT hsz hold => ?_
    have hyu : y = u := by
      have h2 : its[i]? = some y := by simpa using hy
      rw [hu] at h2
      exact (Option.some.inj h2).symm
    subst hyu
    refine ⟨_, rfl, wpAny_letOwnedTupleGo_enum (s := { s with heap := g, toks := tk + 1 }) ho fun g2 isE2 sb => ?_⟩
    have hel : e < s.heap.objs.size := Heap.lt_size isE
    have hjl : j < s.heap.objs.size := by
      obtain ⟨_, q, _⟩ := id isT
      exact Heap.lt_size q
    have hT2 : g2.get? s.heap.objs.size = some { cls := .type "tuple", data := .seq #[.int i tk, y] } := (sb.2 _ (Nat.ne_of_gt hel)).trans hT
    have made : ObjOk X.prog X.w (upd H s.heap.objs.size (.tup [.int (i : Nat), x])) g2 s.heap.objs.size (.tup [.int (i : Nat), x]) :=
      ⟨by show 2 ≤ sizeLine; decide, [.int i tk, y], .cons ⟨_, rfl⟩ (.cons ru .nil), ⟨_, hT2, rfl, _, rfl⟩⟩
    have inv2 : Inv X pins σ (upd H s.heap.objs.size (.tup [.int (i : Nat), x])) { s with heap := g2, toks := tk + 1 } :=
      hinv.turnedNew (ch := [e, j]) (fun b ob hb q => (sb.2 b (fun z => hb (by simp [z]))).trans (hold b ob (fun z => hb (by simp [z])) (fun z => hb (by simp [z])) q)) hfp (Nat.le_refl _) made
    refine ⟨.ref s.heap.objs.size, _, inv2, rfl, ⟨_, x, rfl, hinv.hok.fresh (Nat.le_refl _), rfl, fun ys hy2 => by rw [hinv.tuple_inj hy2 hq]; exact hx⟩, ⟨⟨y, ?_⟩, st1.1.at fun o q => (sb.2 j (Ne.symm ne)).trans q, ne⟩, fun b hb => ?_⟩
    · have e1 : ((i + 1 : Nat) : Int) = (i : Int) + 1 := by omega
      rw [e1]
      exact isE2
    · have hb2 : b < s.heap.objs.size := by
        have z : b = e ∨ b = j := by simpa using hb
        rcases z with rfl | rfl
        · exact hel
        · exact hjl
      rw [upd_ne (Nat.ne_of_lt hb2)]
      exact (hfp b hb).1
  done := by
    rintro X rfl rfl rfl hcalm i pins s σ H E hinv hfp ⟨⟨old, isE⟩, isT, ne⟩ ⟨xs, hq, hx⟩
    obtain ⟨its, rv, pt, hz⟩ := hinv.tuple hq
    have tu : s.heap.IsTuple a its.toArray := pt
    have hT : s.TypeIs (.ref e) "enumerate" := ⟨_, isE, rfl⟩
    obtain ⟨f0, f1, f2, f3, f4, f5⟩ := hfp j (by simp)
    have hl := rv.length
    have cold := hinv.ok.hd hcalm
    unfold pyNext
    refine wpAny_bind (wpAny_attempt (wpAny_callSpecial?_slot (name := Str.ofString "__next__") hT F.slot_enumerate_next
      (wpAny_call_entry F.slot_enumerate_next hT F.entry_enumerate_next ?_ (F.args_enumerate_next_1 _))))
    show wpAny _ _ (field (.ref e) 2 >>= _) _ _ _
    refine wpAny_bind (wpAny_field isE rfl (x := .ref j) rfl (wpAny_bind (RZ.nextOf_tuple_end cold isT tu (by simp; omega) fun g x eb ⟨o, ho, hc⟩ => ?_)))
    refine wpAny_bind (wpAny_isInstance (T := "StopIteration") (b := true) ⟨o, ho, hc⟩ isSubtype_stop (wpAny_pure ⟨rfl, hinv.turned (t' := s.toks) (fun b o hb q => eb b o hb q) f0 f1 f3 f4 f5⟩))
  self := by
    rintro A i s Q E ⟨⟨_, isE⟩, _⟩ h
    exact wpAny_pyIter_enum isE h
def iEnumT (K : PySem.W.Frag) (ta : TA) : TI := fun σ H R => ta σ H fun vs H1 => ∃ a xs, vs = [.ref a] ∧ SqT K H1 a xs ∧ R (EtT K a) H1
theorem pi_enumT {X : Cx} {ex : Expr} {ta : TA} {p pos tpos : Pos} {elts : List Expr} {kk : Nat} (hg : Gl X "enumerate") (hm : X.mg "enumerate" = none) (ha : PA X [ex] ta) (hs : starEach [ex] X.env = [(false, eval ex X.env)] := by rfl) :
    PI X (.Tuple elts kk tpos) (.Call (.Name "enumerate" p) [ex] [] pos) (iEnumT X.K ta) := by
  refine ⟨fun pins s σ H R hinv h => ?_⟩
  refine Call_ (ld_blt hinv hg hm boot_enumerate (PyProof.Rows.callWith_type1 (thn (ha.run pos pins s σ H _ hinv h) fun us s1 ⟨vs, H1, inv1, hv, q1⟩ => ?_) hs rfl))
  obtain ⟨a, xs, rfl, hq, q⟩ := q1
  cases hv with
  | cons r rest =>
    cases rest
    cases r
    obtain ⟨its, rv, pt, hz⟩ := inv1.tuple hq
    refine enum_callT (show s1.heap.IsTuple a its.toArray from pt) fun g isE isT hold => wpAny_pyIter_enum isE ?_
    have inv2 : Inv X pins σ H1 { s1 with heap := g } := inv1.kept (t' := s1.toks) hold
    refine ⟨s1.heap.objs.size + 1, [s1.heap.objs.size + 1, s1.heap.objs.size], _, _, H1, rfl, inv2, turn_enumT a (s1.heap.objs.size + 1) s1.heap.objs.size, ⟨⟨.none, isE⟩, isT, Nat.succ_ne_self _⟩, fun b hb => ?_, q⟩
    have hle : s1.heap.objs.size ≤ b := by
      have z : b = s1.heap.objs.size + 1 ∨ b = s1.heap.objs.size := by simpa using hb
      rcases z with z | z
      · rw [z]; exact Nat.le_succ _
      · rw [z]; exact Nat.le_refl _
    exact inv1.fpOk hle (inv1.hok.fresh hle)
theorem lc_enumT {K : PySem.W.Frag} {a : Addr} {xs : List V} {g : TG} {tt : TT} {te : TE} {vs : List Nat} {σ : L2.St} {H1 : Hp} {D : Addr} {Qd : Hp → Prop} (Pv : Nat → Hp → Prop) (h0 : Pv 0 (upd H1 D (.lst []))) (hq : ∀ i H, Pv i H → SqT K H a xs)
    (hs : ∀ (i : Nat) (x : V) (t : Addr) (H : Hp), xs[i]? = some x → Pv i H → H t = none → g (.ref t) (wipe σ vs) (upd H t (.tup [.int (i : Nat), x])) fun σ2 H2 => wipe σ2 vs = wipe σ vs ∧ tt σ2 H2 fun c H3 =>
      if c = true then te σ2 H3 fun z H4 => ∃ acc, H4 D = some (.lst acc) ∧ acc.length < sizeLine ∧ Pv (i + 1) (upd H4 D (.lst (acc ++ [z]))) else Pv (i + 1) H3) (hd : ∀ H, Pv xs.length H → Qd H) :
    ∃ W : Nat → Nat → Hp → Prop, (∃ m, W 0 m (upd H1 D (.lst []))) ∧ ∀ i m H, W i m H →
      ((EtT K a).stop i H ∧ Qd H) ∨ ((EtT K a).go i H ∧ ∃ Nx : Hp → Prop, (∀ H', Nx H' → ∃ m', m' < m ∧ W (i + 1) m' H') ∧ ∀ x H', (EtT K a).yld i H x H' → g x (wipe σ vs) H' fun σ2 H2 => wipe σ2 vs = wipe σ vs ∧ tt σ2 H2 fun c H3 =>
        if c = true then te σ2 H3 fun z H4 => ∃ acc, H4 D = some (.lst acc) ∧ acc.length < sizeLine ∧ Nx (upd H4 D (.lst (acc ++ [z]))) else Nx H3) := by
  refine ⟨fun i m H => m + i = xs.length ∧ Pv i H, ⟨xs.length, rfl, h0⟩, ?_⟩
  rintro i m H ⟨hi, p⟩
  have q := hq i H p
  by_cases lt : i < xs.length
  · have ex : xs[i]? = some xs[i] := List.getElem?_eq_getElem lt
    refine .inr ⟨⟨xs, _, q, ex⟩, Pv (i + 1), fun H' p' => ⟨m - 1, by omega, by omega, p'⟩, fun v H' y => ?_⟩
    obtain ⟨t, x1, rfl, ht, rfl, f1⟩ := y
    exact hs i x1 t H (f1 xs q) p ht
  · have e : i = xs.length := by omega
    subst e
    exact .inl ⟨⟨xs, q, Nat.le_refl _⟩, hd H p⟩
end NL

set_option maxHeartbeats 4000000
namespace NL
open PySem PySem.Spec PyProof.Rows L2
/-! ### rounds and ranks as functions (out of GF_pure, GF_ranks, LZ_list, FA_fit) -/
abbrev Mk' := Int → Bool
def frcM (side : Int) (os : Pos') (M : Mk') : Bool := if side = 0 then os.any (fun o => o.all M) else os.all (fun o => o.any M)
theorem any_congr' {α : Type} {l : List α} {f g : α → Bool} (h : ∀ x ∈ l, f x = g x) : l.any f = l.any g := by
  induction l with
  | nil => rfl
  | cons a r ih =>
    rw [List.any_cons, List.any_cons, h a (List.mem_cons_self ..), ih fun x hx => h x (List.mem_cons_of_mem _ hx)]
theorem all_congr' {α : Type} {l : List α} {f g : α → Bool} (h : ∀ x ∈ l, f x = g x) : l.all f = l.all g := by
  induction l with
  | nil => rfl
  | cons a r ih =>
    rw [List.all_cons, List.all_cons, h a (List.mem_cons_self ..), ih fun x hx => h x (List.mem_cons_of_mem _ hx)]
theorem frcM_ext {side : Int} {os : Pos'} {M N : Mk'} (h : ∀ o ∈ os, ∀ p ∈ o, M p = N p) : frcM side os M = frcM side os N := by
  unfold frcM
  split
  · exact any_congr' fun o ho => all_congr' fun p hp => h o ho p hp
  · exact all_congr' fun o ho => any_congr' fun p hp => h o ho p hp
def psO (A : Ar) (p : Int) : Pos' := if 0 ≤ p then (A[p.toNat]?).getD [] else []
theorem psO_at {A : Ar} {p : Int} {os : Pos'} (h0 : 0 ≤ p) (h : A[p.toNat]? = some os) : psO A p = os := by
  unfold psO
  rw [if_pos h0, h]
  rfl
def InA (A : Ar) (n : Nat) : Prop := ∀ os ∈ A, ∀ o ∈ os, ∀ p ∈ o, -1 ≤ p ∧ p < (n : Int)
theorem psO_in {A : Ar} {n : Nat} (h : InA A n) (p : Int) : ∀ o ∈ psO A p, ∀ x ∈ o, -1 ≤ x ∧ x < (n : Int) := by
  unfold psO
  split
  · cases hq : A[p.toNat]? with
    | none => intro o ho; cases ho
    | some os => exact h os (List.mem_of_getElem? hq)
  · intro o ho; cases ho
def nxM (A : Ar) (side : Int) (am : List Int) (M : Mk') : Mk' := fun p => M p || (decide (p ∈ am) && frcM side (psO A p) M)
def mr (A : Ar) (side : Int) (am : List Int) (M : Mk') : Nat → Mk'
  | 0 => M
  | k + 1 => nxM A side am (mr A side am M k)
section
variable {A : Ar} {side : Int} {am : List Int} {M : Mk'}
theorem mr_up {p : Int} {k : Nat} (h : mr A side am M k p = true) : mr A side am M (k + 1) p = true := by
  show (mr A side am M k p || _) = true
  rw [h, Bool.true_or]
theorem mr_le {p : Int} {j k : Nat} (h : j ≤ k) (e : mr A side am M j p = true) : mr A side am M k p = true := by
  induction h with
  | refl => exact e
  | step _ ih => exact mr_up ih
theorem mr_out {p : Int} (h : p ∉ am) : ∀ k, mr A side am M k p = M p
  | 0 => rfl
  | k + 1 => by
    show (mr A side am M k p || (decide (p ∈ am) && _)) = M p
    rw [decide_eq_false h, Bool.false_and, Bool.or_false, mr_out h k]
theorem mr_stop {n : Nat} (hA : InA A n) {K : Nat} (h : ∀ p, -1 ≤ p → p < (n : Int) → mr A side am M (K + 1) p = mr A side am M K p) : ∀ L, K ≤ L → ∀ p, -1 ≤ p → p < (n : Int) → mr A side am M L p = mr A side am M K p := by
  intro L hL
  induction hL with
  | refl => intro p _ _; rfl
  | step _ ih =>
    rename_i L _
    intro p h0 h1
    show (mr A side am M L p || (decide (p ∈ am) && frcM side (psO A p) (mr A side am M L))) = _
    rw [ih p h0 h1, frcM_ext (N := mr A side am M K) fun o ho x hx => ih x (psO_in hA p o ho x hx).1 (psO_in hA p o ho x hx).2]
    exact h p h0 h1
end
def IsRk (f : Nat → Mk') (p : Int) : Option Nat → Prop
  | some r => f r p = true ∧ ∀ j, j < r → f j p = false
  | none => ∀ j, f j p = false
theorem IsRk.uniq {f : Nat → Mk'} {p : Int} : ∀ {a b : Option Nat}, IsRk f p a → IsRk f p b → a = b
  | none, none, _, _ => rfl
  | some r, none, h, g => by
    have := g r
    rw [h.1] at this
    cases this
  | none, some r, g, h => by
    have := g r
    rw [h.1] at this
    cases this
  | some r, some q, h, g => by
    rcases Nat.lt_trichotomy r q with z | z | z
    · have := g.2 r z
      rw [h.1] at this
      cases this
    · rw [z]
    · have := h.2 q z
      rw [g.1] at this
      cases this
def cnt (n : Nat) (f : Mk') : Nat := ((List.range n).filter (fun i : Nat => f (i : Int))).length
theorem cnt_le (n : Nat) (f : Mk') : cnt n f ≤ n := by
  have := List.length_filter_le (fun i : Nat => f (i : Int)) (List.range n)
  rw [List.length_range] at this
  exact this
theorem cnt_s (n : Nat) (f : Mk') : cnt (n + 1) f = cnt n f + (if f (n : Int) = true then 1 else 0) := by
  unfold cnt
  rw [List.range_succ, List.filter_append, List.length_append]
  congr 1
  rw [List.filter_cons]
  cases h : f (n : Int) with
  | true => rfl
  | false => rfl
theorem cnt_mono {f g : Mk'} (h : ∀ p, f p = true → g p = true) : ∀ n, cnt n f ≤ cnt n g
  | 0 => Nat.le_refl _
  | n + 1 => by
    have ih := cnt_mono h n
    rw [cnt_s, cnt_s]
    cases hf : f (n : Int) with
    | true => rw [h _ hf]; simp; exact ih
    | false =>
      rw [if_neg Bool.false_ne_true]
      omega
theorem cnt_lt {f g : Mk'} (h : ∀ p, f p = true → g p = true) : ∀ {n k : Nat}, k < n → f (k : Int) = false → g (k : Int) = true → cnt n f < cnt n g
  | 0, k, hk, _, _ => absurd hk (Nat.not_lt_zero k)
  | n + 1, k, hk, hf, hg => by
    rw [cnt_s, cnt_s]
    by_cases hkn : k = n
    · subst hkn
      have := cnt_mono h k
      rw [hf, hg, if_pos rfl, if_neg Bool.false_ne_true]
      omega
    · have ih := cnt_lt h (show k < n by omega) hf hg
      cases hf2 : f (n : Int) with
      | true => rw [h _ hf2]; simp; exact ih
      | false =>
        rw [if_neg Bool.false_ne_true]
        omega
theorem cnt_full {f : Mk'} : ∀ {n : Nat}, cnt n f = n → ∀ k, k < n → f (k : Int) = true
  | 0, _, k, hk => absurd hk (Nat.not_lt_zero k)
  | n + 1, h, k, hk => by
    have h1 := cnt_le n f
    rw [cnt_s] at h
    cases hf : f (n : Int) with
    | true =>
      rw [hf, if_pos rfl] at h
      by_cases hkn : k = n
      · rw [hkn]; exact hf
      · exact cnt_full (show cnt n f = n by omega) k (by omega)
    | false =>
      rw [hf, if_neg Bool.false_ne_true] at h
      omega
theorem cnt_rounds {n : Nat} {f : Nat → Mk'} (up : ∀ k p, f k p = true → f (k + 1) p = true) : ∀ K, (∀ k, k < K → ∃ i : Nat, i < n ∧ f k (i : Int) = false ∧ f (k + 1) (i : Int) = true) → K ≤ cnt n (f K)
  | 0, _ => Nat.zero_le _
  | K + 1, h => by
    have ih := cnt_rounds up K fun k hk => h k (by omega)
    obtain ⟨i, hi, h1, h2⟩ := h K (Nat.lt_succ_self K)
    have := cnt_lt (fun p hp => up K p hp) hi h1 h2
    omega
def psA (n : Nat) : List Int := (List.range n).map fun i : Nat => (i : Int)
theorem psA_mem {n : Nat} {p : Int} : p ∈ psA n ↔ 0 ≤ p ∧ p < (n : Int) := by
  unfold psA
  rw [List.mem_map]
  constructor
  · rintro ⟨i, hi, rfl⟩
    have := List.mem_range.mp hi
    omega
  · rintro ⟨h0, h1⟩
    exact ⟨p.toNat, List.mem_range.mpr (by omega), by omega⟩
theorem psA_len (n : Nat) : (psA n).length = n := by
  unfold psA
  rw [List.length_map, List.length_range]
def rkV : Option Nat → V
  | none => .non
  | some r => .int (r : Nat)
def mkO (o : Bool) (B : Int → Bool) : Mk' := fun p => if p = -1 then o else B p
theorem dec_V {a b : Int} : decide (V.int a = V.int b) = decide (a = b) := by
  rw [dec_int, Bool.beq_eq_decide_eq]
theorem putK_len' {κ : Type} [DecidableEq κ] (c : List (κ × V)) (k : κ) (x : V) : (putK c k x).length ≤ c.length + 1 := by
  unfold putK
  split
  · rw [List.length_map]
    exact Nat.le_succ _
  · rw [List.length_append]
    exact Nat.le_refl _
theorem foldK_take {α : Type} {l : List α} {j : Nat} {x : α} (h : l[j]? = some x) (y : α) : y ∈ l.take (j + 1) ↔ y ∈ l.take j ∨ y = x := by
  rw [List.take_add_one, h, List.mem_append]
  simp
def hz (f : Nat → Mk') : Nat → Int → Int
  | 0, p => if f 0 p = true then 0 else -1
  | k + 1, p => if 0 ≤ hz f k p then hz f k p else if f (k + 1) p = true then ((k + 1 : Nat) : Int) else -1
theorem hz_ge (f : Nat → Mk') : ∀ k p, -1 ≤ hz f k p
  | 0, p => by unfold hz; split <;> omega
  | k + 1, p => by
    unfold hz
    split
    · exact hz_ge f k p
    · split <;> omega
theorem hz_le (f : Nat → Mk') : ∀ k p, hz f k p ≤ (k : Int)
  | 0, p => by unfold hz; split <;> omega
  | k + 1, p => by
    have := hz_le f k p
    unfold hz
    split
    · omega
    · split <;> omega
theorem up_le {f : Nat → Mk'} (up : ∀ k p, f k p = true → f (k + 1) p = true) {p : Int} {j k : Nat} (h : j ≤ k) (e : f j p = true) : f k p = true := by
  induction h with
  | refl => exact e
  | step _ ih => exact up _ _ ih
section
variable {f : Nat → Mk'} (up : ∀ k p, f k p = true → f (k + 1) p = true)
include up
theorem hz_says : ∀ k p, (hz f k p < 0 → f k p = false) ∧ (0 ≤ hz f k p → f k p = true ∧ f (hz f k p).toNat p = true ∧ ∀ j, j < (hz f k p).toNat → f j p = false)
  | 0, p => by
    unfold hz
    cases h : f 0 p with
    | true =>
      rw [if_pos rfl]
      exact ⟨fun z => absurd z (by decide), fun _ => ⟨rfl, h, fun j hj => absurd hj (Nat.not_lt_zero j)⟩⟩
    | false =>
      rw [if_neg Bool.false_ne_true]
      exact ⟨fun _ => rfl, fun z => absurd z (by decide)⟩
  | k + 1, p => by
    obtain ⟨h1, h2⟩ := hz_says k p
    unfold hz
    by_cases h : 0 ≤ hz f k p
    · rw [if_pos h]
      obtain ⟨g1, g2, g3⟩ := h2 h
      exact ⟨fun z => absurd h (by omega), fun _ => ⟨up k p g1, g2, g3⟩⟩
    · rw [if_neg h]
      have hk := h1 (by omega)
      cases hf : f (k + 1) p with
      | true =>
        rw [if_pos rfl]
        refine ⟨fun z => by omega, fun _ => ⟨rfl, hf, fun j hj => ?_⟩⟩
        have hj2 : j ≤ k := by
          have : (((k + 1 : Nat) : Int)).toNat = k + 1 := Int.toNat_natCast _
          omega
        cases hfj : f j p with
        | false => rfl
        | true =>
          have : f k p = true := up_le up hj2 hfj
          rw [this] at hk
          cases hk
      | false =>
        rw [if_neg Bool.false_ne_true]
        exact ⟨fun _ => rfl, fun z => absurd z (by decide)⟩
end
theorem rk_ex (f : Nat → Mk') (p : Int) : ∃ ro, IsRk f p ro := by
  by_cases h : ∃ j, f j p = true
  · have ex : ∀ n j, j ≤ n → f j p = true → ∃ r, f r p = true ∧ ∀ j, j < r → f j p = false := by
      intro n
      induction n with
      | zero =>
        intro j hj hf
        have : j = 0 := by omega
        subst this
        exact ⟨0, hf, fun j hj => absurd hj (Nat.not_lt_zero j)⟩
      | succ n ih =>
        intro j hj hf
        by_cases hl : ∃ i, i < j ∧ f i p = true
        · obtain ⟨i, hi, hfi⟩ := hl
          exact ih i (by omega) hfi
        · refine ⟨j, hf, fun i hi => ?_⟩
          cases hfi : f i p with
          | false => rfl
          | true => exact absurd ⟨i, hi, hfi⟩ hl
    obtain ⟨j, hj⟩ := h
    obtain ⟨r, h1, h2⟩ := ex j j (Nat.le_refl j) hj
    exact ⟨some r, h1, h2⟩
  · refine ⟨none, fun j => ?_⟩
    cases hf : f j p with
    | false => rfl
    | true => exact absurd ⟨j, hf⟩ h
noncomputable def rkF (f : Nat → Mk') (p : Int) : Option Nat := Classical.choose (rk_ex f p)
theorem rkF_is (f : Nat → Mk') (p : Int) : IsRk f p (rkF f p) := Classical.choose_spec (rk_ex f p)
theorem rkF_eq {f : Nat → Mk'} {p : Int} {ro : Option Nat} (h : IsRk f p ro) : rkF f p = ro := (rkF_is f p).uniq h
def gF (st : Bool) (A : Ar) (Kp : List Int) : Nat → Mk' := mr A (if st = true then 1 else 0) (psA A.length) (mkO st (fun p => if st = true then !decide (p ∈ Kp) else decide (p ∈ Kp)))
theorem gF_up {st : Bool} {A : Ar} {Kp : List Int} (k : Nat) (p : Int) (h : gF st A Kp k p = true) : gF st A Kp (k + 1) p = true := mr_up h
theorem gF_out {st : Bool} {A : Ar} {Kp : List Int} (k : Nat) : gF st A Kp k (-1) = st := by
  have : gF st A Kp k (-1) = mkO st (fun p => if st = true then !decide (p ∈ Kp) else decide (p ∈ Kp)) (-1) := mr_out (fun h => by
    have := psA_mem.mp h
    omega) k
  exact this
theorem gF_0 {st : Bool} {A : Ar} {Kp : List Int} {p : Int} (h : 0 ≤ p) : gF st A Kp 0 p = if st = true then !decide (p ∈ Kp) else decide (p ∈ Kp) := by
  show mkO st (fun p => if st = true then !decide (p ∈ Kp) else decide (p ∈ Kp)) p = _
  unfold mkO
  exact if_neg (by omega)
theorem gF_s {st : Bool} {A : Ar} {Kp : List Int} {k i : Nat} {os : Pos'} (hi : A[i]? = some os) : gF st A Kp (k + 1) (i : Int) = (gF st A Kp k (i : Int) || frcM (if st = true then 1 else 0) os (gF st A Kp k)) := by
  have hl := (List.getElem?_eq_some_iff.mp hi).1
  have h1 : decide ((i : Int) ∈ psA A.length) = true := decide_eq_true (psA_mem.mpr (by omega))
  have h2 : psO A (i : Int) = os := psO_at (by omega) (by rw [Int.toNat_natCast]; exact hi)
  show (gF st A Kp k (i : Int) || (decide ((i : Int) ∈ psA A.length) && frcM (if st = true then 1 else 0) (psO A (i : Int)) (gF st A Kp k))) = _
  rw [h1, h2, Bool.true_and]
noncomputable def gR (st : Bool) (A : Ar) (Kp : List Int) (p : Int) : Option Nat := rkF (gF st A Kp) p
theorem gR_is (st : Bool) (A : Ar) (Kp : List Int) (p : Int) : IsRk (gF st A Kp) p (gR st A Kp p) := rkF_is _ _
theorem rgA_ints (a b : Int) : rgV a b = ((List.range (b - a).toNat).map fun i : Nat => a + (i : Int)).map V.int := by
  unfold rgV
  rw [List.map_map] <;> rfl
theorem dp_intsG {K : PySem.W.Frag} {H : Hp} : ∀ l : List Int, DpAll K H (l.map V.int) (l.map PyData.int)
  | [] => .nil
  | a :: r => .cons (.int a) (dp_intsG r)
theorem lay_intsG : ∀ l : List Int, PyData.canLayAll0 (l.map PyData.int) = true ∧ PyData.depthAll (l.map PyData.int) = 0
  | [] => ⟨rfl, rfl⟩
  | a :: r => by
    obtain ⟨h1, h2⟩ := lay_intsG r
    refine ⟨?_, ?_⟩
    · show (true && PyData.canLayAll0 (r.map PyData.int)) = true
      rw [h1]
      rfl
    · show max 0 (PyData.depthAll (r.map PyData.int)) = 0
      rw [h2]
      rfl
theorem shaped_lstG (l : List Int) : SeqAt.shaped (.list (l.map PyData.int)) = true := by
  obtain ⟨h1, h2⟩ := lay_intsG l
  show (PyData.canLayAll0 (l.map PyData.int) && decide (PyData.depthAll (l.map PyData.int) + 1 ≤ 64)) = true
  rw [h1, h2]
  rfl
theorem op_in_seqK {X : Cx} {K : PySem.W.Frag} (h : X.K = K) : OpR X (compareOp .In) (rIn K false) := by
  subst h
  exact op_in_seq
theorem op_notIn_seqK {X : Cx} {K : PySem.W.Frag} (h : X.K = K) : OpR X (compareOp .NotIn) (rIn K true) := by
  subst h
  exact op_notIn_seq
def lzF (n : Nat) (φ : Nat → Int) : List Int := (List.range n).map φ
theorem lzF_len (n : Nat) (φ : Nat → Int) : (lzF n φ).length = n := by unfold lzF; rw [List.length_map, List.length_range]
theorem lzF_at {n : Nat} {φ : Nat → Int} {k : Nat} (h : k < n) : (lzF n φ)[k]? = some (φ k) := by
  unfold lzF
  rw [List.getElem?_map, List.getElem?_range h]
  rfl
theorem lzF_get {n : Nat} {φ : Nat → Int} {k : Int} (h0 : 0 ≤ k) (h1 : k < n) : atI ((lzF n φ).map V.int) k = some (.int (φ k.toNat)) := by
  have := atI_nat (j := k.toNat) (show ((lzF n φ).map V.int)[k.toNat]? = some (V.int (φ k.toNat)) by rw [List.getElem?_map, lzF_at (by omega)]; rfl)
  rw [show ((k.toNat : Nat) : Int) = k by omega] at this
  exact this
theorem lzF_ext {n : Nat} {φ ψ : Nat → Int} (h : ∀ k, k < n → φ k = ψ k) : lzF n φ = lzF n ψ := List.map_congr_left fun k hk => h k (List.mem_range.mp hk)
theorem lzF_inj {n : Nat} {φ ψ : Nat → Int} (h : lzF n φ = lzF n ψ) (k : Nat) (hk : k < n) : φ k = ψ k := by
  have := lzF_at (φ := φ) hk
  rw [h, lzF_at hk] at this
  exact (Option.some.inj this).symm
theorem lzF_set {n i : Nat} {φ : Nat → Int} {c : Int} (hi : i < n) : ((lzF n φ).map V.int).set i (.int c) = (lzF n fun k => if k = i then c else φ k).map V.int := by
  refine List.ext_getElem? fun k => ?_
  rw [List.getElem?_set]
  by_cases hk : i = k
  · subst hk
    rw [if_pos rfl, if_pos (by rw [List.length_map, lzF_len]; exact hi), List.getElem?_map, lzF_at hi, Option.map_some, if_pos rfl]
  · rw [if_neg hk, List.getElem?_map, List.getElem?_map]
    rcases Nat.lt_or_ge k n with h | h
    · rw [lzF_at h, lzF_at h, if_neg (fun e => hk e.symm)]
    · rw [List.getElem?_eq_none (by rw [lzF_len]; exact h), List.getElem?_eq_none (by rw [lzF_len]; exact h)]
theorem lzF_snoc (n : Nat) (φ : Nat → Int) : (lzF (n + 1) φ).map V.int = (lzF n φ).map V.int ++ [V.int (φ n)] := by
  unfold lzF
  rw [List.range_succ, List.map_append, List.map_append]
  rfl
theorem eqv_intsG : ∀ l m : List Int, PyData.eqvAll (l.map PyData.int) (m.map PyData.int) = true → l = m
  | [], [], _ => rfl
  | [], b :: m, h => by cases h
  | a :: l, [], h => by cases h
  | a :: l, b :: m, h => by
    have h' : ((a == b) && PyData.eqvAll (l.map PyData.int) (m.map PyData.int)) = true := h
    rw [Bool.and_eq_true] at h'
    rw [eq_of_beq h'.1, eqv_intsG l m h'.2]
theorem eqv_reflG : ∀ l : List Int, PyData.eqvAll (l.map PyData.int) (l.map PyData.int) = true
  | [] => rfl
  | a :: l => by
    show ((a == a) && PyData.eqvAll (l.map PyData.int) (l.map PyData.int)) = true
    rw [eqv_reflG l, beq_self_eq_true]
    rfl
theorem inT_intG {x : Int} {l : List Int} : (V.bl (if false = true then !inV (V.int x) (l.map V.int) else inV (V.int x) (l.map V.int))) = V.bl (decide (x ∈ l)) := by
  rw [if_neg Bool.false_ne_true, int_in]
end NL

set_option maxHeartbeats 4000000
namespace NL
open PySem PySem.Spec PyProof.Rows L2
/-! ### the arenas of these laws -/
theorem cut_pre {xs : List V} {k : Nat} : cutV xs none (some (k : Int)) = xs.take k := by
  unfold cutV
  rw [HT.sIx_none, show HT.sIx xs.length xs.length (some (k : Int)) = min k xs.length from HT.sIx_nat _ _ _, List.drop_zero, Nat.sub_zero]
  by_cases h : k ≤ xs.length
  · rw [Nat.min_eq_left h]
  · rw [Nat.min_eq_right (by omega), List.take_length, List.take_of_length_le (by omega)]
theorem slA_of {K : PySem.W.Frag} {a : Addr} {xs : List V} {lo hi : Option Int} {H : Hp} {Q : VK} (ha : H a = some (.tup xs)) (q : ∀ p H', Same H H' → H' p = some (.tup (cutV xs lo hi)) → Q (.ref p) H') : rSlA K (.ref a) lo hi H Q := by
  refine ⟨a, xs, rfl, sqt ha, fun h => ?_, fun _ p hp => q p _ (same_new hp _) upd_same⟩
  refine q a H (Same.refl H) ?_
  have : cutV xs lo hi = xs := by
    unfold cutV
    rw [h.1, h.2, List.drop_zero, Nat.sub_zero]
    exact List.take_length
  rw [this]
  exact ha
theorem catA_of {K : PySem.W.Frag} {a b : Addr} {xs ys : List V} {H : Hp} {Q : VK} (ha : H a = some (.tup xs)) (hb : H b = some (.tup ys)) (hl : xs.length + ys.length ≤ 1000) (q : ∀ p H', Same H H' → H' p = some (.tup (xs ++ ys)) → Q (.ref p) H') : rCatA K (.ref a) (.ref b) H Q := by
  refine ⟨a, b, xs, ys, rfl, rfl, sqt ha, sqt hb, big (by omega), fun h => ?_, fun _ h => ?_, fun _ _ p hp => ?_⟩
  · exact q b H (Same.refl H) (by rw [h, List.nil_append]; exact hb)
  · exact q a H (Same.refl H) (by rw [h, List.append_nil]; exact ha)
  · exact q p _ (same_new hp _) upd_same
theorem rgS_good {u n : Int} (h0 : 0 ≤ u) (h1 : u < 2) (hn : 0 < n) (hm : n ≤ 46) : OptG n ((List.range (n - (-u)).toNat).map fun i : Nat => (-u) + (i : Int)) := by
  refine ⟨fun e => ?_, ?_, fun s hs => ?_, ?_⟩
  · have h := congrArg List.length e
    rw [List.length_map, List.length_range, List.length_nil] at h
    omega
  · rw [List.length_map, List.length_range]
    omega
  · obtain ⟨i, hi, rfl⟩ := List.mem_map.mp hs
    have := List.mem_range.mp hi
    omega
  · rw [List.pairwise_map]
    exact List.pairwise_lt_range.imp fun {a b} h => by omega
theorem cut_from {l : List V} {k : Nat} : cutV l (some (k : Int)) none = l.drop k := by
  unfold cutV
  rw [HT.sIx_none, show HT.sIx l.length 0 (some (k : Int)) = min k l.length from HT.sIx_nat _ _ _]
  by_cases h : k ≤ l.length
  · rw [Nat.min_eq_left h]
    exact List.take_of_length_le (by rw [List.length_drop]; omega)
  · rw [Nat.min_eq_right (by omega), List.drop_length, List.drop_eq_nil_of_le (by omega)]
    exact List.take_nil
theorem cut_mid {l : List V} : cutV l (some 1) (some 2) = (l.drop 1).take 1 := by
  unfold cutV
  rw [show HT.sIx l.length 0 (some 1) = min 1 l.length from HT.sIx_nat _ _ _, show HT.sIx l.length l.length (some 2) = min 2 l.length from HT.sIx_nat _ _ _]
  match l with
  | [] => rfl
  | [a] => rfl
  | a :: b :: r =>
    rw [show min 1 (a :: b :: r).length = 1 by rw [List.length_cons, List.length_cons]; omega, show min 2 (a :: b :: r).length = 2 by rw [List.length_cons, List.length_cons]; omega]
section
variable {P : Program} {w : World} {K : PySem.W.Frag} {mg : Str → Option Value} {base : Heap}
/-! ### _law_distinct -/
def spDistinct (K : PySem.W.Frag) : Sp := fun vs H Q _ => ∃ (l : Addr) (ns : List Int), vs = [.ref l] ∧ SqL K H l (ns.map V.int) ∧ ns.length ≤ 1000 ∧ ∀ (p : Addr) (fs : List Int) H', Same H H' → H p = none → H' p = some (.lst (fs.map V.int)) → fs.Nodup → (∀ x, x ∈ fs ↔ x ∈ ns) → fs.length ≤ ns.length → Q (.ref p) H'
theorem ok_law_distinct (T : Txt K mg) : FnOk P w K mg base CX0 1 T.a_law_distinct T.d_law_distinct P_law_distinct (spDistinct K) := by
  refine T.F_law_distinct.ok sc_law_distinct (fun vs H Q E h => ?_) (fun cdv A outer s H vs Q E hr h => ?_)
  · obtain ⟨l, ns, rfl, _⟩ := h
    rfl
  obtain ⟨l, ns, rfl, hl, hn, q⟩ := h
  refine ⟨_, (pss_cons (ps_set (i := 1) sc_law_distinct.nd rfl (Or.inl rfl) (pe_lst pa_nil))
    (pss_cons (ps_for  PassesOwn.never rfl (pi_list (pv 0)) (pg_name (i := 2) sc_law_distinct.nd rfl (Or.inl rfl))
    (pss_one (ps_if (pt_cmpR op_notIn_seq (pv 2) (pv 1) (by rfl))
    (pss_one (ps_expr (pe_bm PySem.F.plainAttrs_list PySem.F.slot_list_append PySem.F.type_list_append mt_append (pv 1) (pa_cons (pv 2) pa_nil))))
    pss_nil)))
    (pss_one (ps_ret (pv 1))))), ?_⟩
  refine ⟨Nat.zero_le _, fun p hp => ?_⟩
  obtain ⟨H1, e1, s1, k1⟩ := newH hp (.lst [])
  rw [e1]
  refine ⟨_, rfl, l, rfl, ⟨_, s1.seq hl⟩, ?_⟩
  refine for_list (K := K) (a := l) (xs := ns.map V.int) (fun (j : Nat) (σ : L2.St) (H' : Hp) => ∃ (fs : List Int) (y : Option V), σ = [some (.ref l), some (.ref p), y] ∧ Same H H' ∧ H' p = some (.lst (fs.map V.int)) ∧ fs.Nodup ∧ (∀ x, x ∈ fs ↔ x ∈ ns.take j) ∧ fs.length ≤ j) ?_ ?_ ?_ ?_
  · exact ⟨[], _, rfl, s1, k1, List.nodup_nil, fun x => by rw [List.take_zero], Nat.le_refl 0⟩
  · rintro j σ H' _ ⟨fs, y, rfl, s2, _⟩
    exact s2.seq hl
  · rintro j x σ H2 hx ⟨fs, y, rfl, s2, k2, hnd, hm, hfl⟩
    rw [List.getElem?_map] at hx
    obtain ⟨c, hc, rfl⟩ := Option.map_eq_some_iff.mp hx
    have hj := (List.getElem?_eq_some_iff.mp hc).1
    refine ⟨_, rfl, _, rfl, p, _, rfl, .inl (sqd k2), rfl, flat_ints' fs, _, rfl, ?_⟩
    by_cases hin : c ∈ fs
    · refine ifF (by rw [notIn_int, decide_eq_true hin] <;> rfl) ?_
      refine ⟨fs, _, rfl, s2, k2, hnd, fun x => ?_, by omega⟩
      rw [foldK_take hc, hm]
      exact ⟨fun h => .inl h, fun h => h.elim id fun e => by rw [e]; exact (hm c).mp hin⟩
    · refine ifT (by rw [notIn_int, decide_eq_false hin] <;> rfl) ?_
      refine ⟨_, rfl, .inl ⟨rfl, _, sqd k2⟩, _, rfl, p, _, _, rfl, rfl, k2, big' (by rw [List.length_map]; omega), ?_⟩
      refine ⟨fs ++ [c], _, rfl, same_put s2 hp, by rw [upd_same, List.map_append]; rfl, ?_, fun x => ?_, by rw [List.length_append]; exact Nat.succ_le_succ hfl⟩
      · exact List.nodup_append.mpr ⟨hnd, by simp, fun a ha b hb e => hin (by rw [← List.mem_singleton.mp hb, ← e]; exact ha)⟩
      · rw [List.mem_append, List.mem_singleton, hm, foldK_take hc]
  · rintro σ H2 ⟨fs, y, rfl, s2, k2, hnd, hm, hfl⟩
    rw [List.length_map] at hfl
    simp only [List.length_map, List.take_length] at hm
    exact ⟨_, rfl, q p fs H2 s2 hp k2 hnd hm hfl⟩
/-! ### _law_options -/
def spOptions (K : PySem.W.Frag) : Sp := fun vs H Q _ => ∃ (d sz : Addr) (n B : Int) (S : List Int), vs = [.ref d, .int n, .ref sz] ∧ Dr H d ∧ 0 < n ∧ n ≤ 46 ∧ B ≤ 6 ∧ sz ≠ d ∧ H sz = some (.lst (S.map V.int)) ∧ 0 < S.length ∧ S.length ≤ 100 ∧ (∀ x ∈ S, 0 ≤ x ∧ x ≤ B) ∧
  ∀ v os H', Go d H H' → PosIn H' os v → (os.length : Int) ≤ B → (∀ o ∈ os, OptG n o) → Q v H'
theorem ok_law_options (T : Txt K mg) : FnOk P w K mg base CX0 2 T.a_law_options T.d_law_options P_law_options (spOptions K) := by
  have G_law_take := ok_law_take (P := P) (w := w) (base := base) T
  refine T.F_law_options.ok sc_law_options (fun vs H Q E h => ?_) (fun cdv A outer s H vs Q E hr h => ?_)
  · obtain ⟨d, sz, n, B, S, rfl, _⟩ := h
    rfl
  obtain ⟨d, sz, n, B, S, rfl, hD, hn0, n46, hB, hsd, hsz, hS0, hS1, hS2, q⟩ := h
  refine ⟨_, (pss_cons (ps_set (i := 3) sc_law_options.nd rfl (Or.inl rfl) (pe_lst pa_nil))
    (pss_cons (ps_for  PassesOwn.never rfl (pi_range1 (by rfl) T.z_range (pa_cons (pe_ix ix_list (pv 2) (pe_call G_law_take (hr.mono (by omega)) (by rfl) T.m_law_take T.F_law_take.kp T.b_law_take .nil pass0 (pa_cons (pv 0) (pa_cons (pe_callB call_len_seq (by rfl) T.z_len PySem.boot_len (pa_cons (pv 2) pa_nil)) pa_nil))) (fun _ _ => rfl)) pa_nil)) (pg_name (i := 4) sc_law_options.nd rfl (Or.inl rfl))
    (pss_cons (ps_set (i := 5) sc_law_options.nd rfl (Or.inl rfl) (pe_lst pa_nil))
    (pss_cons (ps_for  PassesOwn.never rfl (pi_range1 (by rfl) T.z_range (pa_cons (pe_ix ix_list (pe_lst (pa_cons pe_int (pa_cons pe_int (pa_cons pe_int (pa_cons pe_int (pa_cons pe_int (pa_cons pe_int (pa_cons pe_int pa_nil)))))))) (pe_call G_law_take (hr.mono (by omega)) (by rfl) T.m_law_take T.F_law_take.kp T.b_law_take .nil pass0 (pa_cons (pv 0) (pa_cons pe_int pa_nil))) (fun _ _ => rfl)) pa_nil)) (pg_name (i := 6) sc_law_options.nd rfl (Or.inl rfl))
    (pss_cons (ps_set (i := 7) sc_law_options.nd rfl (Or.inl rfl) (pe_call G_law_take (hr.mono (by omega)) (by rfl) T.m_law_take T.F_law_take.kp T.b_law_take .nil pass0 (pa_cons (pv 0) (pa_cons (pv 1) pa_nil))))
    (C8.pss_cut (ps_if (pt_cmpR op_eq (pe_call G_law_take (hr.mono (by omega)) (by rfl) T.m_law_take T.F_law_take.kp T.b_law_take .nil pass0 (pa_cons (pv 0) (pa_cons pe_int pa_nil))) pe_int (nomark _))
    (pss_one (ps_set (i := 7) sc_law_options.nd rfl (Or.inl rfl) (pe_un un_neg pe_int)))
    pss_nil)
    (pss_one (ps_if (pt_cmpR op_notIn_seq (pv 7) (pv 5) (by rfl))
    (pss_one (ps_expr (pe_bm PySem.F.plainAttrs_list PySem.F.slot_list_append PySem.F.type_list_append mt_append (pv 5) (pa_cons (pv 7) pa_nil))))
    pss_nil)))))
    (pss_one (ps_expr (pe_bm PySem.F.plainAttrs_list PySem.F.slot_list_append PySem.F.type_list_append mt_append (pv 3) (pa_cons (pe_callTy call_tuple_of (by rfl) T.z_tuple (by decide +kernel) (pa_cons (pe_callB (cr_sorted) (by rfl) T.z_sorted (by decide +kernel) (pa_cons (pv 5) pa_nil)) pa_nil)) pa_nil)))))))
    (pss_one (ps_ret (pe_callTy call_tuple_of (by rfl) T.z_tuple (by decide +kernel) (pa_cons (pv 3) pa_nil)))))), ?_⟩
  refine ⟨Nat.zero_le _, fun ol hol => ?_⟩
  have nol := new_ne hD hol
  obtain ⟨H1, e1, s1, k1⟩ := newH hol (.lst [])
  rw [e1]
  have g1 := Go.same hD s1
  refine ⟨_, rfl, _, rfl, _, rfl, sz, _, rfl, .inl (sqd (s1 _ _ hsz)), d, _, rfl, g1.dr, by rw [List.length_map]; omega, fun u H2 g2 u0 u1 => ?_⟩
  have esz := g2.fr sz _ hsd (s1 _ _ hsz)
  rw [List.length_map] at u1
  obtain ⟨mm, hmm, hmmem⟩ := atI_map (f := V.int) (xs := S) u0 u1
  have hmb := hS2 mm hmmem
  refine ⟨sz, _, _, _, rfl, rfl, sqd esz, hmm, mm, rfl, by omega, by omega, ?_⟩
  have g12 := g1.trans g2
  have e2o := g2.fr ol _ nol k1
  refine for_range (lo := 0) (n := mm.toNat) (fun (i : Nat) (σ : L2.St) (H' : Hp) => ∃ (zs : List V) (os : Pos') (y4 y5 y6 y7 : Option V), σ = [some (.ref d), some (.int n), some (.ref sz), some (.ref ol), y4, y5, y6, y7] ∧ Go d H H' ∧ H' ol = some (.lst zs) ∧ Each (OptIn H') os zs ∧ os.length = i ∧ ∀ o ∈ os, OptG n o) ?_ ?_ ?_
  · exact ⟨[], [], _, _, _, _, rfl, g12, e2o, .nil, rfl, fun o h => nomatch h⟩
  · rintro i σ H10 hi ⟨zs, os, y4, y5, y6, y7, rfl, g10, e10, hzs, hos, hG2⟩
    generalize hk2 : (0 : Int) + (i : Int) = k2
    refine ⟨Nat.zero_le _, fun fl hfl => ?_⟩
    have nfl := new_ne g10.dr hfl
    obtain ⟨H11, e11, s11, k11⟩ := newH hfl (.lst [])
    rw [e11]
    have ga := Go.same g10.dr s11
    refine ⟨Nat.le_of_ble_eq_true rfl, fun l5 hl5 => ?_⟩
    obtain ⟨H12, e12, s12, k12⟩ := newH hl5 (.lst [.int 1, .int 1, .int 1, .int 2, .int 2, .int 3, .int 4])
    rw [e12]
    have gb := ga.trans (.same ga.dr s12)
    refine ⟨_, rfl, d, 7, rfl, gb.dr, by decide, fun u5 H13 g13' a5 b5 => ?_⟩
    have n5 := new_ne ga.dr hl5
    obtain ⟨mf, hmf, hmfm⟩ := atI_map (f := V.int) (xs := ([1, 1, 1, 2, 2, 3, 4] : List Int)) a5 b5
    have hmf3 : 1 ≤ mf ∧ mf ≤ 4 := by
      simp only [List.mem_cons, List.not_mem_nil, or_false] at hmfm
      omega
    refine ⟨l5, _, _, _, rfl, rfl, sqd (g13'.fr l5 _ n5 k12), hmf, mf, rfl, by omega, by omega, ?_⟩
    have gc2 := gb.trans g13'
    have ef13 := g13'.fr fl _ nfl (s12 _ _ k11)
    refine for_range (lo := 0) (n := mf.toNat) (fun (t : Nat) (σ : L2.St) (H' : Hp) => ∃ (fs : List Int) (y6 y7 : Option V), σ = [some (.ref d), some (.int n), some (.ref sz), some (.ref ol), some (.int k2), some (.ref fl), y6, y7] ∧ Go d H10 H' ∧ H' fl = some (.lst (fs.map V.int)) ∧ fs.Nodup ∧ fs.length ≤ t ∧ (∀ s ∈ fs, -1 ≤ s ∧ s < n) ∧ (0 < t → fs ≠ [])) ?_ ?_ ?_
    · exact ⟨[], _, _, rfl, gc2, ef13, List.nodup_nil, Nat.zero_le _, fun s h => (nomatch h), fun h => absurd h (by omega)⟩
    · rintro t σ H14 ht ⟨fs, y6, y7, rfl, g14', e14, hnd, hlen, hmem, hne⟩
      generalize hk3 : (0 : Int) + (t : Int) = k3
      refine ⟨_, rfl, _, rfl, d, n, rfl, g14'.dr, hn0, fun dr H15 g15' d0 d1 => ?_⟩
      have e15 := g15'.fr fl _ nfl e14
      refine ⟨fun σ H' => ∃ sc : Int, σ = [some (.ref d), some (.int n), some (.ref sz), some (.ref ol), some (.int k2), some (.ref fl), some (.int k3), some (.int sc)] ∧ Go d H15 H' ∧ -1 ≤ sc ∧ sc < n, ?_, ?_⟩
      · refine ⟨_, rfl, d, 14, rfl, g15'.dr, by decide, fun u6 H16 g16 _ _ => ⟨rfl, _, rfl, ?_⟩⟩
        refine ite2 (fun z => ?_) (fun z => ?_)
        · exact ⟨_, rfl, -1, rfl, g16, by omega, by omega⟩
        · exact ⟨dr, rfl, g16, by omega, d1⟩
      rintro σ H16 ⟨sc, rfl, g16, c0, c1⟩
      have e16 := g16.fr fl _ nfl e15
      have g1016 := (g14'.trans g15').trans g16
      refine ⟨_, rfl, _, rfl, fl, _, rfl, .inl (sqd e16), rfl, flat_ints' fs, _, rfl, ?_⟩
      by_cases hin : sc ∈ fs
      · refine ifF (by rw [notIn_int, decide_eq_true hin] <;> rfl) ?_
        exact ⟨fs, _, _, rfl, g1016, e16, hnd, by omega, hmem, fun _ e => by rw [e] at hin; cases hin⟩
      · refine ifT (by rw [notIn_int, decide_eq_false hin] <;> rfl) ?_
        refine ⟨_, rfl, .inl ⟨rfl, _, sqd e16⟩, _, rfl, fl, _, _, rfl, rfl, e16, big' (by rw [List.length_map]; omega), ?_⟩
        refine ⟨fs ++ [sc], _, _, rfl, g1016.put2 hfl nfl, by rw [upd_same, List.map_append]; rfl, ?_, ?_, ?_, fun _ => by simp⟩
        · exact List.nodup_append.mpr ⟨hnd, by simp, fun a ha b hb e => hin (by rw [← List.mem_singleton.mp hb, ← e]; exact ha)⟩
        · rw [List.length_append]
          exact Nat.add_le_add_right hlen 1
        · intro s hs
          rcases List.mem_append.mp hs with hs | hs
          · exact hmem s hs
          · rw [List.mem_singleton.mp hs]
            exact ⟨c0, c1⟩
    · rintro σ H14 ⟨fs, y6, y7, rfl, g14', e14, hnd, hlen, hmem, hne⟩
      have e14o := g14'.fr ol _ nol e10
      refine ⟨_, rfl, .inl ⟨rfl, _, sqd e14o⟩, _, rfl, fl, fs, rfl, sqd e14, by omega, fun ns q1 hperm hpw hq1 => ?_⟩
      obtain ⟨Hd, ed, sd, kd⟩ := newH hq1 (.lst (ns.map V.int))
      rw [ed]
      refine ⟨q1, _, rfl, .inl ⟨sqd kd, fun t2 ht2 => ?_⟩⟩
      obtain ⟨He, ee, se, ke⟩ := newH ht2 (.tup (ns.map V.int))
      rw [ee]
      have sde := sd.trans se
      have eoe := sde _ _ e14o
      have hzl := hzs.1
      refine ⟨ol, zs, _, rfl, rfl, eoe, big' (by omega), ?_⟩
      have ge := g14'.trans (.same g14'.dr sde)
      have tpx : Tp H10 (upd He ol (.lst (zs ++ [.ref t2]))) := tp_put (ge.tp g10.dr) eoe
      have nt2 : t2 ≠ ol := fun e => by
        rw [e, sd _ _ e14o] at ht2
        cases ht2
      refine ⟨zs ++ [.ref t2], os ++ [ns], _, _, _, _, rfl, (g10.trans ge).put2 hol nol, upd_same, ?_, by rw [List.length_append, hos]; rfl, ?_⟩
      · refine (hzs.mono fun o x => OptIn.tp tpx).snoc ⟨t2, rfl, ?_⟩
        rw [upd_ne nt2]
        exact ke
      · intro o ho
        rcases List.mem_append.mp ho with ho | ho
        · exact hG2 o ho
        · rw [List.mem_singleton.mp ho]
          refine ⟨fun e => ?_, by have := hperm.length_eq; omega, fun s hs => hmem s (hperm.mem_iff.mp hs), asc_of hperm hnd hpw⟩
          rw [e] at hperm
          exact hne (by omega) hperm.symm.eq_nil
  · rintro σ H10 ⟨zs, os, y4, y5, y6, y7, rfl, g10, e10, hzs, hos, hG2⟩
    refine ⟨_, rfl, ol, zs, rfl, .inl ⟨sqd e10, fun t ht => ?_⟩⟩
    have st := same_new ht (.tup zs)
    exact q _ os _ (g10.trans (.same g10.dr st)) ⟨t, zs, rfl, upd_same, hzs.mono fun o x => OptIn.tp (Tp.same st)⟩ (by omega) hG2
/-! ### _law_arena -/
theorem opt_two {n a b : Int} {fs ns : List Int} (ha : 0 ≤ a ∧ a < n) (hb : 0 ≤ b ∧ b < n) (hnd : fs.Nodup) (hm : ∀ x, x ∈ fs ↔ x ∈ [a, b]) (hl : fs.length ≤ 2) (hperm : ns.Perm fs) (hpw : ns.Pairwise (· ≤ ·)) : OptG n ns := by
  have hmem : ∀ s ∈ ns, 0 ≤ s ∧ s < n := fun s hs => by
    have := (hm s).mp (hperm.mem_iff.mp hs)
    rcases List.mem_cons.mp this with h | h
    · rw [h]; exact ha
    · rw [List.mem_singleton.mp h]; exact hb
  refine ⟨fun e => ?_, by have := hperm.length_eq; omega, fun s hs => by have := hmem s hs; omega, asc_of hperm hnd hpw⟩
  have : a ∈ ns := hperm.mem_iff.mpr ((hm a).mpr (List.mem_cons_self ..))
  rw [e] at this
  cases this
def spArena : Sp := fun vs H Q _ => ∃ (d : Addr) (most : Int), vs = [.ref d, .int most] ∧ Dr H d ∧ 0 ≤ most ∧ most ≤ 45 ∧ ∀ v A H', Go d H H' → ArIn H' A v → ArG A → Q v H'
theorem ok_law_arena (T : Txt K mg) : FnOk P w K mg base CX0 3 T.a_law_arena T.d_law_arena P_law_arena spArena := by
  have G_law_take := ok_law_take (P := P) (w := w) (base := base) T
  have G_law_options := ok_law_options (P := P) (w := w) (base := base) T
  have G_law_distinct := ok_law_distinct (P := P) (w := w) (base := base) T
  refine T.F_law_arena.ok sc_law_arena (fun vs H Q E h => ?_) (fun cdv A outer s H vs Q E hr h => ?_)
  · obtain ⟨d, most, rfl, _⟩ := h
    rfl
  obtain ⟨d, most, rfl, hD, m0, m1, q⟩ := h
  refine ⟨_, (pss_cons (ps_set (i := 2) sc_law_arena.nd rfl (Or.inl rfl) (pe_call G_law_take (hr.mono (by omega)) (by rfl) T.m_law_take T.F_law_take.kp T.b_law_take .nil pass0 (pa_cons (pv 0) (pa_cons (pe_op op_add (pv 1) pe_int) pa_nil))))
    (pss_cons (ps_set (i := 3) sc_law_arena.nd rfl (Or.inl rfl) (pe_call G_law_take (hr.mono (by omega)) (by rfl) T.m_law_take T.F_law_take.kp T.b_law_take .nil pass0 (pa_cons (pv 0) (pa_cons pe_int pa_nil))))
    (pss_cons (ps_set (i := 4) sc_law_arena.nd rfl (Or.inl rfl) (pe_lst pa_nil))
    (pss_cons (ps_for  PassesOwn.never rfl (pi_range1 (by rfl) T.z_range (pa_cons (pv 2) pa_nil)) (pg_name (i := 5) sc_law_arena.nd rfl (Or.inl rfl))
    (pss_cons (ps_set (i := 6) sc_law_arena.nd rfl (Or.inl rfl) (pe_call G_law_options (hr.mono (by omega)) (by rfl) T.m_law_options T.F_law_options.kp T.b_law_options .nil pass0 (pa_cons (pv 0) (pa_cons (pv 2) (pa_cons (pe_lst (pa_cons pe_int (pa_cons pe_int (pa_cons pe_int (pa_cons pe_int (pa_cons pe_int (pa_cons pe_int pa_nil))))))) pa_nil)))))
    (C8.pss_cut (ps_if (pt_cmpR op_eq (pv 3) pe_int (nomark _))
    (pss_one (ps_set (i := 6) sc_law_arena.nd rfl (Or.inl rfl) (pe_op op_catA (pe_tup (pa_cons (pe_callTy call_tuple_of (by rfl) T.z_tuple (by decide +kernel) (pa_cons (pe_callB (cr_sorted) (by rfl) T.z_sorted (by decide +kernel) (pa_cons (pe_call G_law_distinct (hr.mono (by omega)) (by rfl) T.m_law_distinct T.F_law_distinct.kp T.b_law_distinct .nil pass0 (pa_cons (pe_lst (pa_cons (pe_callB (call_min2 rfl) (by rfl) T.z_min (by decide +kernel) (pa_cons (pe_op op_add (pv 5) pe_int) (pa_cons (pe_op op_sub (pv 2) pe_int) pa_nil))) (pa_cons (pe_callB (call_min2 rfl) (by rfl) T.z_min (by decide +kernel) (pa_cons (pe_op op_add (pv 5) pe_int) (pa_cons (pe_op op_sub (pv 2) pe_int) pa_nil))) pa_nil))) pa_nil)) pa_nil)) pa_nil)) pa_nil)) (pe_slice sl_tupA (pv 6) (po_some pe_int) (po_some pe_int)))))
    pss_nil)
    (C8.pss_cut (ps_if (pt_cmpR op_eq (pv 3) pe_int (nomark _))
    (pss_one (ps_set (i := 6) sc_law_arena.nd rfl (Or.inl rfl) (pe_op op_catA (pe_tup (pa_cons (pe_callTy call_tuple_of (by rfl) T.z_tuple (by decide +kernel) (pa_cons (pe_callB (cr_sorted) (by rfl) T.z_sorted (by decide +kernel) (pa_cons (pe_call G_law_distinct (hr.mono (by omega)) (by rfl) T.m_law_distinct T.F_law_distinct.kp T.b_law_distinct .nil pass0 (pa_cons (pe_lst (pa_cons (pe_callB (call_max2 rfl) (by rfl) T.z_max (by decide +kernel) (pa_cons (pe_op op_sub (pv 5) pe_int) (pa_cons pe_int pa_nil))) (pa_cons (pe_callB (call_max2 rfl) (by rfl) T.z_max (by decide +kernel) (pa_cons (pe_op op_sub (pv 5) pe_int) (pa_cons pe_int pa_nil))) pa_nil))) pa_nil)) pa_nil)) pa_nil)) pa_nil)) (pe_slice sl_tupA (pv 6) (po_some pe_int) po_none))))
    pss_nil)
    (C8.pss_cut (ps_if (PW.pt (pw_and (pt_cmpR op_eq (pv 3) pe_int (nomark _)) (pw_and1 (pt_cmpR op_eq (pv 5) pe_int (nomark _)))))
    (pss_one (ps_set (i := 6) sc_law_arena.nd rfl (Or.inl rfl) (pe_op op_catA (pe_op op_catA (pv 6) (pe_call G_law_options (hr.mono (by omega)) (by rfl) T.m_law_options T.F_law_options.kp T.b_law_options .nil pass0 (pa_cons (pv 0) (pa_cons (pv 2) (pa_cons (pe_lst (pa_cons pe_int (pa_cons pe_int (pa_cons pe_int pa_nil)))) pa_nil))))) (pe_tup (pa_cons (pe_tupRg rfl (by rfl) T.z_tuple (prg_2 (by rfl) T.z_range (pe_un un_neg (pe_call G_law_take (hr.mono (by omega)) (by rfl) T.m_law_take T.F_law_take.kp T.b_law_take .nil pass0 (pa_cons (pv 0) (pa_cons pe_int pa_nil)))) (pv 2))) pa_nil)))))
    pss_nil)
    (pss_one (ps_expr (pe_bm PySem.F.plainAttrs_list PySem.F.slot_list_append PySem.F.type_list_append mt_append (pv 4) (pa_cons (pv 6) pa_nil)))))))))
    (pss_one (ps_ret (pe_callTy call_tuple_of (by rfl) T.z_tuple (by decide +kernel) (pa_cons (pv 4) pa_nil)))))))), ?_⟩
  refine ⟨_, rfl, _, rfl, _, _, rfl, rfl, d, _, rfl, hD, by omega, fun n H1 g1 n0 n1 => ?_⟩
  have n46 : n ≤ 46 := by
    have : n < most + 1 := n1
    omega
  refine ⟨_, rfl, d, 10, rfl, g1.dr, by decide, fun tw H2 g2 _ _ => ?_⟩
  have g12 := g1.trans g2
  refine ⟨Nat.zero_le _, fun p hp => ?_⟩
  have hpd := new_ne g2.dr hp
  have hp0 := g12.free hp
  obtain ⟨H5, e5, s5, k5⟩ := newH hp (.lst [])
  rw [e5]
  have g15 := g12.trans (.same g2.dr s5)
  refine ⟨_, rfl, n, rfl, by omega, by omega, for_range (lo := 0) (n := n.toNat) (fun (j : Nat) (σ : L2.St) (H' : Hp) => ∃ (xs : List V) (A' : Ar) (y5 y6 : Option V), σ = [some (.ref d), some (.int most), some (.int n), some (.int tw), some (.ref p), y5, y6] ∧ Go d H H' ∧ H' p = some (.lst xs) ∧ Each (PosIn H') A' xs ∧ A'.length = j ∧ ∀ os ∈ A', PosG n os) ?_ ?_ ?_⟩
  · exact ⟨[], [], _, _, rfl, g15, k5, .nil, rfl, fun os h => nomatch h⟩
  · rintro j σ H7 hj ⟨xs, A', y5, y6, rfl, g7, e7, hxs, hA, hG⟩
    have hn0 : 0 < n := by omega
    generalize hk : (0 : Int) + (j : Int) = k
    have hk0 : 0 ≤ k ∧ k < n := by omega
    refine ⟨_, rfl, _, rfl, Nat.le_of_ble_eq_true rfl, fun l1 hl1 => ?_⟩
    obtain ⟨H8, e8, s8, k8⟩ := newH hl1 (.lst [.int 0, .int 1, .int 1, .int 2, .int 2, .int 3])
    rw [e8]
    have nl1 := new_ne g7.dr hl1
    have g8 := Go.same g7.dr s8
    refine ⟨d, l1, n, 3, [0, 1, 1, 2, 2, 3], rfl, g8.dr, hn0, n46, by decide, nl1, k8, by decide, by decide, by decide, fun v os H9 g9 hv hol hoG => ?_⟩
    have g79 := g8.trans g9
    -- what the options are like
    have mid : ∀ {Y : Int} {H' : Hp} {v' : V} {os' : Pos'}, Go d H7 H' → PosIn H' os' v' → (os'.length : Int) ≤ Y → (∀ o ∈ os', OptG n o) → ∃ (v : V) (os : Pos'), [some (V.ref d), some (.int most), some (.int n), some (.int tw), some (.ref p), some (.int k), some v'] = [some (V.ref d), some (.int most), some (.int n), some (.int tw), some (.ref p), some (.int k), some v] ∧ Go d H7 H' ∧ PosIn H' os v ∧ (os.length : Int) ≤ Y ∧ ∀ o ∈ os, OptG n o := fun a b c e => ⟨_, _, rfl, a, b, c, e⟩
    refine ⟨fun σ H' => ∃ (v : V) (os : Pos'), σ = [some (.ref d), some (.int most), some (.int n), some (.int tw), some (.ref p), some (.int k), some v] ∧ Go d H7 H' ∧ PosIn H' os v ∧ (os.length : Int) ≤ 3 ∧ ∀ o ∈ os, OptG n o, ?_, ?_⟩
    · refine ⟨_, rfl, rfl, _, rfl, ?_⟩
      refine ite2 (fun z => ?_) (fun z => mid g79 hv hol hoG)
      obtain ⟨b0, ys, rfl, e0, hys⟩ := hv
      obtain ⟨a, ha⟩ : ∃ a : Int, (if n - 1 < k + 1 then n - 1 else k + 1) = a := ⟨_, rfl⟩
      obtain ⟨b, hb⟩ : ∃ b : Int, (if n - 1 < k + 2 then n - 1 else k + 2) = b := ⟨_, rfl⟩
      have ha2 : 0 ≤ a ∧ a < n := by split at ha <;> omega
      have hb2 : 0 ≤ b ∧ b < n := by split at hb <;> omega
      refine ⟨_, rfl, _, _, rfl, rfl, _, rfl, _, _, rfl, rfl, _, _, rfl, ?_⟩
      refine ⟨_, rfl, _, _, rfl, rfl, _, rfl, _, _, rfl, rfl, _, _, rfl, ?_⟩
      refine ⟨Nat.le_of_ble_eq_true rfl, fun l hl => ?_⟩
      rw [ha, hb] at *
      obtain ⟨Ha, ea, sa, ka⟩ := newH hl (.lst [V.int a, V.int b])
      rw [ea]
      refine ⟨l, [a, b], rfl, sqd ka, Nat.le_of_ble_eq_true rfl, fun pf fs Hb sb _ kb hnd hm hfl => ?_⟩
      refine ⟨pf, fs, rfl, sqd kb, by have : fs.length ≤ 2 := hfl; omega, fun ns q1 hperm hpw hq1 => ?_⟩
      have og := opt_two ha2 hb2 hnd hm hfl hperm hpw
      obtain ⟨Hc, ec, sc, kc⟩ := newH hq1 (.lst (ns.map V.int))
      rw [ec]
      refine ⟨q1, _, rfl, .inl ⟨sqd kc, fun t2 ht2 => ?_⟩⟩
      obtain ⟨Hd, ed, sd, kd⟩ := newH ht2 (.tup (ns.map V.int))
      rw [ed]
      refine ⟨Nat.le_of_ble_eq_true rfl, fun t3 ht3 => ?_⟩
      obtain ⟨He, ee, se, ke⟩ := newH ht3 (.tup [V.ref t2])
      rw [ee]
      have s9e := (((sa.trans sb).trans sc).trans sd).trans se
      refine ⟨_, rfl, _, rfl, _, rfl, ?_⟩
      refine slA_of (s9e _ _ e0) fun ps Hf sf ef => ?_
      rw [cut_mid] at ef
      refine catA_of (sf _ _ ke) ef (by have := hys.1; rw [List.length_take, List.length_singleton]; omega) fun pc Hg sg eg => ?_
      have s9g := s9e.trans (sf.trans sg)
      refine mid (os' := [ns] ++ (os.drop 1).take 1) (g79.trans (.same g9.dr s9g)) ⟨pc, _, rfl, eg, ?_⟩ (by rw [List.length_append, List.length_singleton, List.length_take]; omega) fun o ho => ?_
      · refine (Each.cons ⟨t2, rfl, ((se.trans sf).trans sg) _ _ kd⟩ .nil).app (((hys.drop 1).take 1).mono fun o x => OptIn.tp (Tp.same s9g))
      · rcases List.mem_append.mp ho with ho | ho
        · rw [List.mem_singleton.mp ho]
          exact og
        · exact hoG o (List.mem_of_mem_drop (List.mem_of_mem_take ho))
    rintro σ H10 ⟨v, os, rfl, g10, hv, hol, hoG⟩
    refine ⟨fun σ H' => ∃ (v : V) (os : Pos'), σ = [some (.ref d), some (.int most), some (.int n), some (.int tw), some (.ref p), some (.int k), some v] ∧ Go d H7 H' ∧ PosIn H' os v ∧ (os.length : Int) ≤ 3 ∧ ∀ o ∈ os, OptG n o, ?_, ?_⟩
    · refine ⟨_, rfl, rfl, _, rfl, ?_⟩
      refine ite2 (fun z => ?_) (fun z => mid g10 hv hol hoG)
      obtain ⟨b0, ys, rfl, e0, hys⟩ := hv
      obtain ⟨a, ha⟩ : ∃ a : Int, (if 0 > k - 1 then 0 else k - 1) = a := ⟨_, rfl⟩
      obtain ⟨b, hb⟩ : ∃ b : Int, (if 0 > k - 2 then 0 else k - 2) = b := ⟨_, rfl⟩
      have ha2 : 0 ≤ a ∧ a < n := by split at ha <;> omega
      have hb2 : 0 ≤ b ∧ b < n := by split at hb <;> omega
      refine ⟨_, rfl, _, _, rfl, rfl, _, _, rfl, ?_⟩
      refine ⟨_, rfl, _, _, rfl, rfl, _, _, rfl, ?_⟩
      refine ⟨Nat.le_of_ble_eq_true rfl, fun l hl => ?_⟩
      rw [ha, hb] at *
      obtain ⟨Ha, ea, sa, ka⟩ := newH hl (.lst [V.int a, V.int b])
      rw [ea]
      refine ⟨l, [a, b], rfl, sqd ka, Nat.le_of_ble_eq_true rfl, fun pf fs Hb sb _ kb hnd hm hfl => ?_⟩
      refine ⟨pf, fs, rfl, sqd kb, by have : fs.length ≤ 2 := hfl; omega, fun ns q1 hperm hpw hq1 => ?_⟩
      have og := opt_two ha2 hb2 hnd hm hfl hperm hpw
      obtain ⟨Hc, ec, sc, kc⟩ := newH hq1 (.lst (ns.map V.int))
      rw [ec]
      refine ⟨q1, _, rfl, .inl ⟨sqd kc, fun t2 ht2 => ?_⟩⟩
      obtain ⟨Hd, ed, sd, kd⟩ := newH ht2 (.tup (ns.map V.int))
      rw [ed]
      refine ⟨Nat.le_of_ble_eq_true rfl, fun t3 ht3 => ?_⟩
      obtain ⟨He, ee, se, ke⟩ := newH ht3 (.tup [V.ref t2])
      rw [ee]
      have s9e := (((sa.trans sb).trans sc).trans sd).trans se
      refine ⟨_, rfl, _, rfl, ?_⟩
      unfold tNoPart
      refine slA_of (s9e _ _ e0) fun ps Hf sf ef => ?_
      rw [show cutV ys (some 1) none = ys.drop 1 from cut_from (k := 1)] at ef
      refine catA_of (sf _ _ ke) ef (by have := hys.1; rw [List.length_drop, List.length_singleton]; omega) fun pc Hg sg eg => ?_
      have s9g := s9e.trans (sf.trans sg)
      refine mid (os' := [ns] ++ os.drop 1) (g10.trans (.same g10.dr s9g)) ⟨pc, _, rfl, eg, ?_⟩ (by rw [List.length_append, List.length_singleton, List.length_drop]; omega) fun o ho => ?_
      · refine (Each.cons ⟨t2, rfl, ((se.trans sf).trans sg) _ _ kd⟩ .nil).app ((hys.drop 1).mono fun o x => OptIn.tp (Tp.same s9g))
      · rcases List.mem_append.mp ho with ho | ho
        · rw [List.mem_singleton.mp ho]
          exact og
        · exact hoG o (List.mem_of_mem_drop ho)
    rintro σ H11 ⟨v, os, rfl, g11, hv, hol, hoG⟩
    refine ⟨fun σ H' => ∃ (v : V) (os : Pos'), σ = [some (.ref d), some (.int most), some (.int n), some (.int tw), some (.ref p), some (.int k), some v] ∧ Go d H7 H' ∧ PosIn H' os v ∧ (os.length : Int) ≤ 12 ∧ ∀ o ∈ os, OptG n o, ?_, ?_⟩
    · refine ⟨_, rfl, rfl, _, rfl, ?_⟩
      refine ite2 (fun z => ?_) (fun z => mid g11 hv (by omega) hoG)
      refine ⟨_, rfl, rfl, _, rfl, ?_⟩
      refine ite2 (fun z => ?_) (fun z => mid g11 hv (by omega) hoG)
      obtain ⟨b0, ys, rfl, e0, hys⟩ := hv
      refine ⟨_, rfl, _, rfl, _, rfl, Nat.le_of_ble_eq_true rfl, fun l hl => ?_⟩
      obtain ⟨Ha, ea, sa, ka⟩ := newH hl (.lst [V.int 4, V.int 5, V.int 6])
      rw [ea]
      have ga := Go.same g11.dr sa
      refine ⟨d, l, n, 6, [4, 5, 6], rfl, ga.dr, hn0, n46, by decide, new_ne g11.dr hl, ka, by decide, by decide, by decide, fun v2 os2 Hb gb hv2 hol2 hoG2 => ?_⟩
      obtain ⟨b2, ys2, rfl, e2, hys2⟩ := hv2
      have gab := ga.trans gb
      have e0b := gab.tp g11.dr _ _ e0
      have hyl := hys.1
      have hyl2 := hys2.1
      refine catA_of e0b e2 (by omega) fun pc Hc sc ec => ?_
      have gc := gab.trans (.same gb.dr sc)
      refine ⟨_, rfl, d, 2, rfl, gc.dr, by decide, fun u Hd gd u0 u1 => ⟨_, rfl, _, rfl, _, _, rfl, rfl, ⟨by omega, by omega, by omega, by omega, by omega⟩, fun q1 hq1 => ?_⟩⟩
      rw [rgA_ints]
      have og := rgS_good u0 u1 hn0 n46
      generalize (List.range (n - (-u)).toNat).map (fun i : Nat => (-u) + (i : Int)) = o1 at og ⊢
      obtain ⟨He, ee, se, ke⟩ := newH hq1 (.tup (o1.map V.int))
      rw [ee]
      refine ⟨Nat.le_of_ble_eq_true rfl, fun t3 ht3 => ?_⟩
      obtain ⟨Hf, ef, sf, kf⟩ := newH ht3 (.tup [V.ref q1])
      rw [ef]
      have ecf := (se.trans sf) _ _ (gd.tp gc.dr _ _ ec)
      refine catA_of ecf kf (by rw [List.length_append, List.length_singleton]; omega) fun pg Hg sg eg => ?_
      have gdg := gd.trans (.same gd.dr ((se.trans sf).trans sg))
      refine mid (os' := os ++ os2 ++ [o1]) (g11.trans (gc.trans gdg)) ⟨pg, _, rfl, eg, ?_⟩ (by rw [List.length_append, List.length_append, List.length_singleton]; omega) fun o ho => ?_
      · refine ((hys.mono fun o x => OptIn.tp ((gc.trans gdg).tp g11.dr)).app (hys2.mono fun o x => OptIn.tp ((Tp.same sc).trans (gdg.tp gc.dr)))).app (.cons ⟨q1, rfl, (sf.trans sg) _ _ ke⟩ .nil)
      · rcases List.mem_append.mp ho with ho | ho
        · rcases List.mem_append.mp ho with ho | ho
          · exact hoG o ho
          · exact hoG2 o ho
        · rw [List.mem_singleton.mp ho]
          exact og
    rintro σ H12 ⟨v, os, rfl, g12', hv, hol, hoG⟩
    have e12p := g12'.fr p _ hpd e7
    have hxl := hxs.1
    refine ⟨_, rfl, .inl ⟨rfl, _, sqd e12p⟩, _, rfl, p, xs, _, rfl, rfl, e12p, big' (by omega), ?_⟩
    have tp : Tp H7 (upd H12 p (.lst (xs ++ [v]))) := tp_put (g12'.tp g7.dr) e12p
    refine ⟨xs ++ [v], A' ++ [os], _, _, rfl, (g7.trans g12').put2 hp0 hpd, upd_same, (hxs.mono fun o x => PosIn.tp tp).snoc (hv.tp (tp_put Tp.refl e12p)), by rw [List.length_append, hA]; rfl, ?_⟩
    intro o ho
    rcases List.mem_append.mp ho with ho | ho
    · exact hG o ho
    · rw [List.mem_singleton.mp ho]
      exact ⟨by omega, hoG⟩
  · rintro σ H7 ⟨xs, A', y5, y6, rfl, g7, e7, hxs, hA, hG⟩
    refine ⟨_, rfl, p, xs, rfl, .inl ⟨sqd e7, fun t ht => ?_⟩⟩
    have st := same_new ht (.tup xs)
    refine q _ A' _ (g7.trans (.same g7.dr st)) ⟨t, xs, rfl, upd_same, hxs.mono fun os x => PosIn.tp (.same st)⟩ ⟨by omega, fun os h => ?_⟩
    rw [show (A'.length : Int) = n by omega]
    exact hG os h
end
end NL

set_option maxHeartbeats 4000000
namespace NL
open PySem PySem.Spec PyProof.Rows L2
theorem ArG.inA {A : Ar} (h : ArG A) : InA A A.length := fun os hos o ho p hp => ((h.2 os hos).2 o ho).mem p hp
theorem pi_tupK {X : Cx} {K : PySem.W.Frag} {tg l : Expr} {tl : TE} (h : X.K = K) (e : PE X l tl) : PI X tg l (iTup K tl) := by
  subst h
  exact pi_tup e
theorem cr_allK {X : Cx} {K : PySem.W.Frag} (h : X.K = K) (hc : X.calm = true) : CallR X (.builtin "all") (rAll K) := by
  subst h
  exact cr_all hc
section
variable {P : Program} {w : World} {K : PySem.W.Frag} {mg : Str → Option Value} {base : Heap}
/-! ### some of the positions -/
def spSomeN : Sp := fun vs H Q _ => ∃ (d : Addr) (n sh : Int), vs = [.ref d, .int n, .int sh] ∧ Dr H d ∧ 0 ≤ n ∧ n ≤ 1000 ∧ ∀ (p : Addr) (o : List Int) (H' : Hp), Go d H H' → H' p = some (.tup (o.map V.int)) → (∀ x ∈ o, 0 ≤ x ∧ x < n) → Q (.ref p) H'
theorem ok_law_some (T : Txt K mg) : FnOk P w K mg base CX0 2 T.a_law_some T.d_law_some P_law_some spSomeN := by
  have G_law_take := ok_law_take (P := P) (w := w) (base := base) T
  refine T.F_law_some.ok sc_law_some (fun vs H Q E h => ?_) (fun cdv A outer s H vs Q E hr h => ?_)
  · obtain ⟨d, n, sh, rfl, _⟩ := h
    rfl
  obtain ⟨d, n, sh, rfl, hD, n0, n1, q⟩ := h
  refine ⟨_, (pss_one (ps_ret (pe_callTy call_tuple_of (by rfl) T.z_tuple (by decide +kernel) (pa_cons (pe_lc (own := [("k", 3)]) (g := (gName 3)) (tt := _) rfl sc_law_some.nd (pi_range1 (by rfl) T.z_range (pa_cons (pv 1) pa_nil)) (blkOk_by (N := N_law_some) (sc := defScope s_law_some) (by decide +kernel)) (fun _ _ _ _ _ => (pg_name (i := 3) sc_law_some.nd rfl (Or.inl rfl))) (fun _ _ _ _ _ => (pts_one (pt_cmpR op_lt (pe_call G_law_take (hr.mono (by omega)) (by rfl) T.m_law_take T.F_law_take.kp T.b_law_take .nil pass0 (pa_cons (pv 0) (pa_cons pe_int pa_nil))) (pv 2) (nomark _)))) (fun _ _ _ _ _ => (pv 3))) pa_nil)))), ?_⟩
  refine ⟨_, rfl, n, rfl, by omega, by omega, fun D hD' => ?_⟩
  have nDd := new_ne hD hD'
  have s1 := same_new hD' (.lst [])
  refine lc_range (lo := 0) (n := n.toNat) (fun (i : Nat) (H' : Hp) => ∃ o : List Int, Go d H H' ∧ H' D = some (.lst (o.map V.int)) ∧ o.length ≤ i ∧ ∀ x ∈ o, 0 ≤ x ∧ x < n) ?_ ?_ ?_
  · exact ⟨[], .same hD s1, upd_same, Nat.le_refl 0, fun x hx => nomatch hx⟩
  · rintro i H' hi ⟨o, g2, e2, hlen, hin⟩
    refine ⟨rfl, ?_⟩
    refine ⟨_, rfl, d, 8, rfl, g2.dr, by decide, fun u H2 g3 _ _ => ⟨_, rfl, _, _, rfl, rfl, _, rfl, ?_⟩⟩
    have e3 := g3.fr D _ nDd e2
    refine ite2 (fun z => ?_) (fun z => ⟨o, g2.trans g3, e3, by omega, hin⟩)
    exact ⟨_, rfl, _, e3, big' (by rw [List.length_map]; omega), o ++ [0 + (i : Int)], (g2.trans g3).put2 hD' nDd, by rw [upd_same, List.map_append]; rfl, by rw [List.length_append]; exact Nat.add_le_add_right hlen 1, fun x hx => (List.mem_append.mp hx).elim (hin x) fun h => by rw [List.mem_singleton.mp h]; omega⟩
  · rintro H2 ⟨o, g2, e2, hlen, hin⟩
    refine ⟨D, _, rfl, .inl ⟨sqd e2, fun t ht => ?_⟩⟩
    exact q t o _ (g2.trans (Go.new g2.dr ht)) upd_same hin
/-! ### two answers that are the same -/
def Alk : Nat → Hp → V → V → Prop
  | 0, _, _, _ => False
  | n + 1, H, u, v => (∃ s, u = .str s ∧ v = .str s) ∨ (∃ i, u = .int i ∧ v = .int i) ∨ ∃ a b xs ys, u = .ref a ∧ v = .ref b ∧ H a = some (.tup xs) ∧ H b = some (.tup ys) ∧ xs.length = ys.length ∧ ys.length ≤ 1000000 ∧
      ∀ (k : Nat) x y, xs[k]? = some x → ys[k]? = some y → Alk n H x y
theorem Alk.ints {H : Hp} {a b : Addr} {l : List Int} (ha : H a = some (.tup (l.map V.int))) (hb : H b = some (.tup (l.map V.int))) (hl : l.length ≤ 1000000) : Alk 2 H (.ref a) (.ref b) := by
  refine .inr (.inr ⟨a, b, _, _, rfl, rfl, ha, hb, rfl, by rw [List.length_map]; exact hl, fun k x y hx hy => ?_⟩)
  rw [hx] at hy
  cases hy
  rw [List.getElem?_map] at hx
  obtain ⟨i, _, rfl⟩ := Option.map_eq_some_iff.mp hx
  exact .inr (.inl ⟨i, rfl, rfl⟩)
def spSame (n : Nat) : Sp := fun vs H Q _ => ∃ u v : V, vs = [u, v] ∧ Alk n H u v ∧ Q (.bl true) H
/-! ### the indexes of the safe options -/
def sfI (os : Pos') (M : Mk') : List Int := ((List.range os.length).filter fun i => ((os[i]?).getD []).all M).map fun i : Nat => (i : Int)
def sfT (os : Pos') (M : Mk') (j : Nat) : List Int := ((List.range j).filter fun i => ((os[i]?).getD []).all M).map fun i : Nat => (i : Int)
theorem sfT_len (os : Pos') (M : Mk') (j : Nat) : (sfT os M j).length ≤ j := by
  unfold sfT
  rw [List.length_map]
  have := List.length_filter_le (fun i => ((os[i]?).getD []).all M) (List.range j)
  rw [List.length_range] at this
  exact this
theorem sfT_s {os : Pos'} {M : Mk'} {j : Nat} {o : Opt} (h : os[j]? = some o) : sfT os M (j + 1) = sfT os M j ++ (if o.all M = true then [(j : Int)] else []) := by
  unfold sfT
  rw [List.range_succ, List.filter_append, List.map_append]
  congr 1
  rw [List.filter_cons, h]
  show List.map _ (if o.all M = true then [j] else []) = _
  cases o.all M <;> rfl
theorem sfT_full (os : Pos') (M : Mk') : sfT os M os.length = sfI os M := rfl
theorem sfI_mem {os : Pos'} {M : Mk'} {g : Int} (h : g ∈ sfI os M) : ∃ (i : Nat) (o : Opt), g = (i : Int) ∧ os[i]? = some o ∧ o.all M = true := by
  unfold sfI at h
  obtain ⟨i, hi, rfl⟩ := List.mem_map.mp h
  obtain ⟨h1, h2⟩ := List.mem_filter.mp hi
  have hl := List.mem_range.mp h1
  have ho := List.getElem?_eq_getElem hl
  rw [ho] at h2
  exact ⟨i, _, rfl, ho, h2⟩
theorem sfI_ne {os : Pos'} {M : Mk'} (h : frcM 0 os M = true) : sfI os M ≠ [] := by
  unfold frcM at h
  rw [if_pos rfl] at h
  obtain ⟨o, ho, hall⟩ := List.any_eq_true.mp h
  obtain ⟨i, hi⟩ := List.getElem?_of_mem ho
  have hl := (List.getElem?_eq_some_iff.mp hi).1
  intro e
  unfold sfI at e
  have : i ∈ (List.range os.length).filter fun i => ((os[i]?).getD []).all M := List.mem_filter.mpr ⟨List.mem_range.mpr hl, by rw [hi]; exact hall⟩
  rw [List.map_eq_nil_iff.mp e] at this
  cases this
end
end NL

set_option maxHeartbeats 4000000
namespace NL
open PySem PySem.Spec PyProof.Rows L2
/-! ### a list of rounds, None where there is none -/
def rz (z : Int) : V := if z < 0 then .non else .int z
def rzL (n : Nat) (φ : Nat → Int) : List V := (List.range n).map fun k => rz (φ k)
theorem rzL_len (n : Nat) (φ : Nat → Int) : (rzL n φ).length = n := by unfold rzL; rw [List.length_map, List.length_range]
theorem rzL_at {n : Nat} {φ : Nat → Int} {k : Nat} (h : k < n) : (rzL n φ)[k]? = some (rz (φ k)) := by
  unfold rzL
  rw [List.getElem?_map, List.getElem?_range h]
  rfl
theorem rzL_get {n : Nat} {φ : Nat → Int} {k : Int} (h0 : 0 ≤ k) (h1 : k < n) : atI (rzL n φ) k = some (rz (φ k.toNat)) := by
  have := atI_nat (rzL_at (φ := φ) (show k.toNat < n by omega))
  rw [show ((k.toNat : Nat) : Int) = k by omega] at this
  exact this
theorem rzL_ext {n : Nat} {φ ψ : Nat → Int} (h : ∀ k, k < n → φ k = ψ k) : rzL n φ = rzL n ψ := List.map_congr_left fun k hk => by rw [h k (List.mem_range.mp hk)]
theorem rz_inj {a b : Int} (h1 : -1 ≤ a) (h2 : -1 ≤ b) (h : rz a = rz b) : a = b := by
  unfold rz at h
  split at h <;> split at h
  · omega
  · cases h
  · cases h
  · exact V.int.inj h
theorem rzL_inj {n : Nat} {φ ψ : Nat → Int} (h1 : ∀ k, -1 ≤ φ k) (h2 : ∀ k, -1 ≤ ψ k) (h : rzL n φ = rzL n ψ) (k : Nat) (hk : k < n) : φ k = ψ k := by
  have := rzL_at (φ := φ) hk
  rw [h, rzL_at hk] at this
  exact (rz_inj (h2 k) (h1 k) (Option.some.inj this)).symm
theorem rzL_set {n i : Nat} {φ : Nat → Int} {c : Int} (hi : i < n) (hc : 0 ≤ c) : (rzL n φ).set i (.int c) = rzL n fun k => if k = i then c else φ k := by
  refine List.ext_getElem? fun k => ?_
  rw [List.getElem?_set]
  by_cases hk : i = k
  · subst hk
    rw [if_pos rfl, if_pos (by rw [rzL_len]; exact hi), rzL_at hi, if_pos rfl]
    unfold rz
    rw [if_neg (by omega)]
  · rw [if_neg hk]
    rcases Nat.lt_or_ge k n with h | h
    · rw [rzL_at h, rzL_at h, if_neg (fun e => hk e.symm)]
    · rw [List.getElem?_eq_none (by rw [rzL_len]; exact h), List.getElem?_eq_none (by rw [rzL_len]; exact h)]
theorem rzL_snoc (n : Nat) (φ : Nat → Int) : rzL (n + 1) φ = rzL n φ ++ [rz (φ n)] := by
  unfold rzL
  rw [List.range_succ, List.map_append]
  rfl
def rd : V → PyData
  | .int i => .int i
  | _ => .none
def zs (n : Nat) (φ : Nat → Int) : List Int := (List.range n).map φ
theorem rzL_zs (n : Nat) (φ : Nat → Int) : rzL n φ = (zs n φ).map rz := by
  unfold rzL zs
  rw [List.map_map]
  rfl
theorem dp_rz {K : PySem.W.Frag} {H : Hp} : ∀ l : List Int, DpAll K H (l.map rz) (l.map fun z => rd (rz z))
  | [] => .nil
  | a :: r => by
    refine .cons ?_ (dp_rz r)
    show Dp K H (rz a) (rd (rz a))
    unfold rz
    by_cases h : a < 0
    · rw [if_pos h]
      exact .non
    · rw [if_neg h]
      exact .int a
theorem lay_rz : ∀ l : List Int, PyData.canLayAll0 (l.map fun z => rd (rz z)) = true ∧ PyData.depthAll (l.map fun z => rd (rz z)) = 0
  | [] => ⟨rfl, rfl⟩
  | a :: r => by
    obtain ⟨h1, h2⟩ := lay_rz r
    have : rd (rz a) = .none ∨ ∃ i, rd (rz a) = .int i := by
      unfold rz
      split
      · exact .inl rfl
      · exact .inr ⟨a, rfl⟩
    show PyData.canLayAll0 (rd (rz a) :: _) = true ∧ PyData.depthAll (rd (rz a) :: _) = 0
    rcases this with h | ⟨i, h⟩
    · rw [h]
      exact ⟨h1, by show max 0 (PyData.depthAll _) = 0; rw [h2]; rfl⟩
    · rw [h]
      exact ⟨h1, by show max 0 (PyData.depthAll _) = 0; rw [h2]; rfl⟩
theorem eqv_rz : ∀ l m : List Int, PyData.eqvAll (l.map fun z => rd (rz z)) (m.map fun z => rd (rz z)) = true → l.map rz = m.map rz
  | [], [], _ => rfl
  | [], b :: m, h => by cases h
  | a :: l, [], h => by cases h
  | a :: l, b :: m, h => by
    have h' : (PyData.eqv (rd (rz a)) (rd (rz b)) && PyData.eqvAll (l.map fun z => rd (rz z)) (m.map fun z => rd (rz z))) = true := h
    rw [Bool.and_eq_true] at h'
    rw [List.map_cons, List.map_cons, eqv_rz l m h'.2]
    congr 1
    have h1 := h'.1
    unfold rz at h1 ⊢
    split at h1 <;> split at h1
    · rename_i x y
      rw [if_pos x, if_pos y]
    · cases h1
    · cases h1
    · rename_i x y
      rw [if_neg x, if_neg y]
      rw [eq_of_beq (show (a == b) = true from h1)]
theorem eqv_reflR : ∀ l : List Int, PyData.eqvAll (l.map fun z => rd (rz z)) (l.map fun z => rd (rz z)) = true
  | [] => rfl
  | a :: l => by
    show (PyData.eqv (rd (rz a)) (rd (rz a)) && PyData.eqvAll (l.map fun z => rd (rz z)) (l.map fun z => rd (rz z))) = true
    rw [eqv_reflR l, Bool.and_true]
    unfold rz
    by_cases h : a < 0
    · rw [if_pos h]
      rfl
    · rw [if_neg h]
      exact beq_self_eq_true a
theorem shaped_rz (l : List Int) : SeqAt.shaped (.list (l.map fun z => rd (rz z))) = true := by
  obtain ⟨h1, h2⟩ := lay_rz l
  show (PyData.canLayAll0 (l.map fun z => rd (rz z)) && decide (PyData.depthAll (l.map fun z => rd (rz z)) + 1 ≤ 64)) = true
  rw [h1, h2]
  rfl
theorem rz_non {z : Int} : decide (rz z = V.non) = decide (z < 0) := by
  unfold rz
  by_cases h : z < 0
  · rw [if_pos h, decide_eq_true h, decide_eq_true rfl]
  · rw [if_neg h, decide_eq_false h]
    exact decide_eq_false (fun e => nomatch e)
abbrev snF (A : Ar) (Kp : List Int) : Nat → Mk' := mr A 1 (psA A.length) (mkO true (fun p => !decide (p ∈ Kp)))
theorem snF_up {A : Ar} {Kp : List Int} (k : Nat) (p : Int) (h : snF A Kp k p = true) : snF A Kp (k + 1) p = true := mr_up h
theorem snF_out {A : Ar} {Kp : List Int} (k : Nat) : snF A Kp k (-1) = true := by
  have : mr A 1 (psA A.length) (mkO true (fun p => !decide (p ∈ Kp))) k (-1) = mkO true (fun p => !decide (p ∈ Kp)) (-1) := mr_out (fun h => by
    have := psA_mem.mp h
    omega) k
  exact this
theorem snF_s {A : Ar} {Kp : List Int} {k i : Nat} {os : Pos'} (hi : A[i]? = some os) : snF A Kp (k + 1) (i : Int) = (snF A Kp k (i : Int) || os.all (fun o => o.any (snF A Kp k))) := by
  have hl := (List.getElem?_eq_some_iff.mp hi).1
  have h1 : decide ((i : Int) ∈ psA A.length) = true := decide_eq_true (psA_mem.mpr (by omega))
  have h2 : psO A (i : Int) = os := psO_at (by omega) (by rw [Int.toNat_natCast]; exact hi)
  show (snF A Kp k (i : Int) || (decide ((i : Int) ∈ psA A.length) && frcM 1 (psO A (i : Int)) (snF A Kp k))) = _
  rw [h1, h2, Bool.true_and]
  rfl
def szF (A : Ar) (Kp : List Int) (r k : Nat) : Int := hz (snF A Kp) r (k : Int)
end NL

set_option maxHeartbeats 4000000
namespace NL
open PySem PySem.Spec PyProof.Rows L2
def czF (A : Ar) (Kp : List Int) (r k : Nat) : Int := hz (gF false A Kp) r (k : Int)
theorem gF_sc {A : Ar} {Kp : List Int} {k i : Nat} {os : Pos'} (hi : A[i]? = some os) : gF false A Kp (k + 1) (i : Int) = (gF false A Kp k (i : Int) || os.any (fun o => o.all (gF false A Kp k))) := gF_s hi
section
variable {P : Program} {w : World} {K : PySem.W.Frag} {mg : Str → Option Value} {base : Heap}
/-! ### _law_come_ranks -/
/-- the ranks rs by R -/
def RkL (A : Ar) (R : Int → Option Nat) (rs : List V) : Prop := rs.length = A.length ∧ ∀ k : Nat, k < A.length → rs[k]? = some (rkV (R (k : Int)))
def spLCome : Sp := fun vs H Q _ => ∃ (v : V) (A : Ar) (hp : Addr) (Kp : List Int), vs = [v, .ref hp] ∧ ArIn H A v ∧ ArG A ∧ H hp = some (.tup (Kp.map V.int)) ∧ (∀ x ∈ Kp, 0 ≤ x ∧ x < A.length) ∧
  ∀ (p : Addr) (rs : List V) H', Same H H' → H p = none → H' p = some (.lst rs) → RkL A (gR false A Kp) rs → Q (.ref p) H'
theorem ok_law_come_ranks (T : Txt K mg) : FnOk P w K mg base CX0 1 T.a_law_come_ranks T.d_law_come_ranks P_law_come_ranks spLCome := by
  refine T.F_law_come_ranks.ok sc_law_come_ranks (fun vs H Q E h => ?_) (fun cdv A outer s H vs Q E hr h => ?_)
  · obtain ⟨v, A, hp, Kp, rfl, _⟩ := h
    rfl
  obtain ⟨v, A0, hp, Kp, rfl, ⟨b0, xs, rfl, e0, hxs⟩, hG, eh, hKp, q⟩ := h
  have hxl := hxs.1
  have h46 := hG.1
  have says := hz_says (f := gF false A0 Kp) (fun k p e => gF_up k p e)
  refine ⟨_, (pss_cons (ps_setLc (i := 2) (own := [("options", 3)]) (g := (gName 3)) (tt := tYes) rfl sc_law_come_ranks.nd rfl rfl (sw_true rfl rfl rfl (by decide +kernel)) (pi_tup (pv 0)) (blkOk_by (N := N_law_come_ranks) (sc := defScope s_law_come_ranks) (by decide +kernel)) (fun _ _ _ _ _ => (pg_name (i := 3) sc_law_come_ranks.nd rfl (Or.inl rfl))) (fun _ _ _ _ _ => pts_nil) (fun _ _ _ _ _ => pe_non))
    (pss_cons (ps_for  PassesOwn.never rfl (pi_tup (pv 1)) (pg_name (i := 4) sc_law_come_ranks.nd rfl (Or.inl rfl))
    (pss_one (ps_asg pe_int (pg_sub (pv 2) (pv 4) set_list))))
    (pss_cons (ps_for  PassesOwn.never rfl (pi_range2 (by rfl) T.z_range (pa_cons pe_int (pa_cons (pe_op op_add (pe_callB call_len_seq (by rfl) T.z_len PySem.boot_len (pa_cons (pv 0) pa_nil)) pe_int) pa_nil))) (pg_name (i := 5) sc_law_come_ranks.nd rfl (Or.inl rfl))
    (pss_cons (ps_set (i := 6) sc_law_come_ranks.nd rfl (Or.inr rfl) (pe_callTy call_list_of (by rfl) T.z_list (by decide +kernel) (pa_cons (pv 2) pa_nil)))
    (pss_cons (ps_for  PassesOwn.never rfl (pi_range1 (by rfl) T.z_range (pa_cons (pe_callB call_len_seq (by rfl) T.z_len PySem.boot_len (pa_cons (pv 0) pa_nil)) pa_nil)) (pg_name (i := 4) sc_law_come_ranks.nd rfl (Or.inl rfl))
    (pss_one (ps_if (pt_cmpR op_isN (pe_ix ix_list (pv 6) (pv 4) (fun _ _ => rfl)) pe_non (nomark _))
    (pss_one (ps_for  PassesOwn.never rfl (pi_tup (pe_ix ix_tup (pv 0) (pv 4) (fun _ _ => rfl))) (pg_name (i := 7) sc_law_come_ranks.nd rfl (Or.inl rfl))
    (pss_one (ps_if (pt_cmpR op_eq (pe_callB call_len_seq (by rfl) T.z_len PySem.boot_len (pa_cons (pe_lc (own := [("one", 8)]) (g := (gName 8)) (tt := _) rfl sc_law_come_ranks.nd (pi_tup (pv 7)) (blkOk_by (N := N_law_come_ranks) (sc := defScope s_law_come_ranks) (by decide +kernel)) (fun _ _ _ _ _ => (pg_name (i := 8) sc_law_come_ranks.nd rfl (Or.inl rfl))) (fun _ _ _ _ _ => (pts_one (PW.pt (pw_or (pt_cmpR op_eq (pv 8) (pe_un un_neg pe_int) (nomark _)) (pw_or1 (pt_cmpR op_isN (pe_ix (ix_listK (K := K) rfl) (pv 6) (pv 8) (fun _ _ => rfl)) pe_non (nomark _))))))) (fun _ _ _ _ _ => (pv 8))) pa_nil)) pe_int (nomark _))
    (pss_one (ps_asg (pv 5) (pg_sub (pv 2) (pv 4) set_list)))
    pss_nil))))
    pss_nil)))
    (pss_one (ps_if (pt_cmpR (op_eqD hr.units) (pv 2) (pv 6) (nomark _))
    (pss_one ps_break)
    pss_nil)))))
    (pss_one (ps_ret (pv 2)))))), ?_⟩
  refine ⟨_, rfl, b0, rfl, ⟨_, sqt e0⟩, fun fl hfl => ?_⟩
  refine lc_tup (K := K) (a := b0) (xs := xs) (fun (j : Nat) (H' : Hp) => Same H H' ∧ H' fl = some (.lst (rzL j fun _ => -1))) ?_ ?_ ?_ ?_
  · exact ⟨same_new hfl _, upd_same⟩
  · rintro j H' _ ⟨s1, _⟩
    exact sqt (s1 _ _ e0)
  · rintro j x H1 hx ⟨s1, k1⟩
    have hjl := (List.getElem?_eq_some_iff.mp hx).1
    refine ⟨rfl, yes_if ?_⟩
    refine ⟨_, k1, big' (by rw [rzL_len]; omega), same_put s1 hfl, ?_⟩
    rw [upd_same, rzL_snoc]
    rfl
  rintro H1 ⟨s1, k1⟩
  rw [hxl] at k1
  have hflH : H fl = none := hfl
  have done : ∀ (m : Nat) (H' : Hp), Same H H' → H' fl = some (.lst (rzL A0.length (czF A0 Kp m))) → (∀ L, m ≤ L → ∀ k : Nat, k < A0.length → gF false A0 Kp L (k : Int) = gF false A0 Kp m (k : Int)) → Q (.ref fl) H' := fun m H' s' e' hst => by
    refine q fl _ H' s' hflH e' ⟨rzL_len _ _, fun k hk => ?_⟩
    obtain ⟨h1, h2⟩ := says m (k : Int)
    have hge := hz_ge (gF false A0 Kp) m (k : Int)
    by_cases hz0 : 0 ≤ hz (gF false A0 Kp) m (k : Int)
    · obtain ⟨_, g2, g3⟩ := h2 hz0
      rw [show gR false A0 Kp (k : Int) = some (hz (gF false A0 Kp) m (k : Int)).toNat from rkF_eq ⟨g2, g3⟩]
      rw [rzL_at hk]
      congr 1
      show rz (hz (gF false A0 Kp) m (k : Int)) = V.int (((hz (gF false A0 Kp) m (k : Int)).toNat : Nat) : Int)
      unfold rz
      rw [if_neg (by omega)]
      congr 1
      omega
    · have hf0 := h1 (by omega)
      have hnone : IsRk (gF false A0 Kp) (k : Int) none := fun j => by
        show gF false A0 Kp j (k : Int) = false
        rcases Nat.le_total m j with z | z
        · rw [hst j z k hk]
          exact hf0
        · cases hj : gF false A0 Kp j (k : Int) with
          | false => rfl
          | true =>
            rw [up_le (fun k p e => gF_up k p e) z hj] at hf0
            cases hf0
      rw [show gR false A0 Kp (k : Int) = none from rkF_eq hnone]
      rw [rzL_at hk]
      congr 1
      show rz (hz (gF false A0 Kp) m (k : Int)) = V.non
      unfold rz
      rw [if_pos (by omega)]
  -- the positions at home
  refine ⟨_, rfl, hp, rfl, ⟨_, sqt (s1 _ _ eh)⟩, ?_⟩
  refine for_tup (K := K) (a := hp) (xs := Kp.map V.int) (fun (j : Nat) (σ : L2.St) (H' : Hp) => ∃ y4 : Option V, σ = [some (.ref b0), some (.ref hp), some (.ref fl), none, y4, none, none, none, none] ∧ Same H H' ∧ H' fl = some (.lst (rzL A0.length fun k => if (k : Int) ∈ Kp.take j then 0 else -1))) ?_ ?_ ?_ ?_
  · refine ⟨_, rfl, s1, ?_⟩
    exact k1.trans (congrArg (fun l => some (HO.lst l)) (rzL_ext fun k _ => (if_neg (by rw [List.take_zero]; exact fun h => nomatch h)).symm))
  · rintro j σ H' _ ⟨y4, rfl, s2, _⟩
    exact sqt (s2 _ _ eh)
  · rintro j x σ H2 hx ⟨y4, rfl, s2, k2⟩
    rw [List.getElem?_map] at hx
    obtain ⟨c, hc, rfl⟩ := Option.map_eq_some_iff.mp hx
    have hcm := hKp c (List.mem_of_getElem? hc)
    refine ⟨_, rfl, _, rfl, fl, _, _, _, rfl, rfl, k2, ixN_in (by omega) (by rw [rzL_len]; omega), ?_⟩
    refine ⟨_, rfl, same_put s2 hflH, ?_⟩
    rw [upd_same, rzL_set (by omega) (Int.le_refl 0)]
    congr 2
    refine rzL_ext fun k _ => ?_
    by_cases hk : k = c.toNat
    · rw [if_pos hk, if_pos ((foldK_take hc _).mpr (.inr (by omega)))]
    · rw [if_neg hk]
      by_cases h : (k : Int) ∈ Kp.take j
      · rw [if_pos h, if_pos ((foldK_take hc _).mpr (.inl h))]
      · rw [if_neg h, if_neg (fun e => ((foldK_take hc _).mp e).elim h (fun e => hk (by omega)))]
  rintro σ H2 ⟨y4, rfl, s2, k2⟩
  rw [List.length_map, List.take_length] at k2
  have hall0 : (rzL A0.length fun k => if (k : Int) ∈ Kp then 0 else -1) = rzL A0.length (czF A0 Kp 0) := rzL_ext fun k hk => by
    unfold czF hz
    rw [gF_0 (by omega), if_neg Bool.false_ne_true]
    by_cases h : (k : Int) ∈ Kp
    · rw [if_pos h, decide_eq_true h, if_pos rfl]
    · rw [if_neg h, decide_eq_false h, if_neg Bool.false_ne_true]
  rw [hall0] at k2
  refine ⟨_, rfl, b0, _, rfl, .inr (sqt (s2 _ _ e0)), _, _, rfl, rfl, _, _, rfl, ⟨by omega, by omega, by omega, by omega⟩, ?_⟩
  refine for_range (lo := 1) (n := ((xs.length : Int) + 1 - 1).toNat) (fun (j : Nat) (σ : L2.St) (H' : Hp) => ∃ y4 y5 y6 y7 : Option V, σ = [some (.ref b0), some (.ref hp), some (.ref fl), none, y4, y5, y6, y7, none] ∧ Same H H' ∧ H' fl = some (.lst (rzL A0.length (czF A0 Kp j))) ∧ ∀ k, k < j → ∃ i : Nat, i < A0.length ∧ gF false A0 Kp k (i : Int) = false ∧ gF false A0 Kp (k + 1) (i : Int) = true) ?_ ?_ ?_
  · exact ⟨_, _, _, _, rfl, s2, k2, fun k hk => absurd hk (Nat.not_lt_zero k)⟩
  · rintro j σ H3 hj ⟨y4, y5, y6, y7, rfl, s3, kf3, hgr⟩
    have hjn : j < A0.length := by omega
    generalize hrk : (1 : Int) + (j : Int) = rank
    refine ⟨_, rfl, fl, _, rfl, .inl (sqd kf3), fun bl hbl => ?_⟩
    obtain ⟨H4, e4, s4, k4⟩ := newH hbl (.lst (rzL A0.length (czF A0 Kp j)))
    rw [e4]
    have hne : fl ≠ bl := fun z => by
      rw [← z, kf3] at hbl
      cases hbl
    refine ⟨_, rfl, b0, _, rfl, .inr (sqt ((s3.trans s4) _ _ e0)), _, rfl, by omega, by omega, ?_⟩
    refine for_range (lo := 0) (n := ((xs.length : Nat) : Int).toNat) (fun (i : Nat) (σ : L2.St) (H' : Hp) => ∃ y4 y7 : Option V, σ = [some (.ref b0), some (.ref hp), some (.ref fl), none, y4, some (.int rank), some (.ref bl), y7, none] ∧ Same H H' ∧ H' bl = some (.lst (rzL A0.length (czF A0 Kp j))) ∧ H' fl = some (.lst (rzL A0.length fun k => if k < i then czF A0 Kp (j + 1) k else czF A0 Kp j k))) ?_ ?_ ?_
    · exact ⟨y4, y7, rfl, s3.trans s4, k4, s4 _ _ kf3⟩
    · rintro i σ H5 hi ⟨y4, y7, rfl, s5, kb5, kf5⟩
      have hiA : i < A0.length := by omega
      generalize hat : (0 : Int) + (i : Int) = at_
      have hai : at_ = (i : Int) := by omega
      have hti : at_.toNat = i := by omega
      have hge := hz_ge (gF false A0 Kp) j (i : Int)
      have hstep : czF A0 Kp (j + 1) i = if 0 ≤ czF A0 Kp j i then czF A0 Kp j i else if gF false A0 Kp (j + 1) (i : Int) = true then ((j + 1 : Nat) : Int) else -1 := rfl
      refine ⟨_, rfl, _, rfl, bl, _, _, _, rfl, rfl, sqd kb5, rzL_get (by omega) (by omega), rfl, _, rfl, ?_⟩
      rw [hti, rz_non]
      by_cases hlt : czF A0 Kp j i < 0
      · refine ifT (decide_eq_true hlt) ?_
        have hf0 := (says j (i : Int)).1 hlt
        have hm1 : czF A0 Kp j i = -1 := by unfold czF at hlt ⊢; omega
        have hos := List.getElem?_eq_getElem hiA
        generalize A0[i] = os at hos
        obtain ⟨x, hx, b1, ys, rfl, e1', hys⟩ := hxs.at hos
        have hyl := hys.1
        have hosG := (hG.2 os (List.mem_of_getElem? hos))
        have hfj : gF false A0 Kp (j + 1) (i : Int) = os.any (fun o => o.all (gF false A0 Kp j)) := by
          rw [gF_sc hos, hf0, Bool.false_or]
        have hatx : atI xs at_ = some (V.ref b1) := by
          rw [hai]
          exact atI_nat hx
        refine ⟨_, rfl, _, rfl, b0, _, _, _, rfl, rfl, sqt (s5 _ _ e0), hatx, b1, rfl, ⟨_, sqt (s5 _ _ e1')⟩, ?_⟩
        refine for_tup (K := K) (a := b1) (xs := ys) (fun (m : Nat) (σ : L2.St) (H' : Hp) => ∃ y7 : Option V, σ = [some (.ref b0), some (.ref hp), some (.ref fl), none, some (.int at_), some (.int rank), some (.ref bl), y7, none] ∧ Same H H' ∧ H' bl = some (.lst (rzL A0.length (czF A0 Kp j))) ∧ H' fl = some (.lst (rzL A0.length fun k => if k = i ∧ (os.take m).any (fun o => o.all (gF false A0 Kp j)) = true then ((j + 1 : Nat) : Int) else if k < i then czF A0 Kp (j + 1) k else czF A0 Kp j k))) ?_ ?_ ?_ ?_
        · refine ⟨y7, rfl, s5, kb5, ?_⟩
          exact kf5.trans (congrArg (fun l => some (HO.lst l)) (rzL_ext fun k _ => (if_neg (fun e => by rw [List.take_zero] at e; exact Bool.false_ne_true e.2)).symm))
        · rintro m σ H' _ ⟨y7, rfl, s6, _⟩
          exact sqt (s6 _ _ e1')
        · rintro m x σ H6 hx6 ⟨y7, rfl, s6, kb6, kf6⟩
          have hml := (List.getElem?_eq_some_iff.mp hx6).1
          have ho := List.getElem?_eq_getElem (show m < os.length by omega)
          generalize os[m] = o at ho
          obtain ⟨bo, rfl, eo⟩ := hys.2 m o x ho hx6
          have hoG := hosG.2 o (List.mem_of_getElem? ho)
          have hlen := hoG.len
          have hnext : (os.take (m + 1)).any (fun o => o.all (gF false A0 Kp j)) = ((os.take m).any (fun o => o.all (gF false A0 Kp j)) || o.all (gF false A0 Kp j)) := by
            rw [List.take_add_one, ho, List.any_append]
            show (_ || (o.all (gF false A0 Kp j) || false)) = _
            rw [Bool.or_false]
          refine ⟨_, rfl, bo, rfl, ⟨_, sqt (s6 _ _ eo)⟩, fun L hL => ?_⟩
          have hLf : fl ≠ L := fun z => by
            rw [← z, kf6] at hL
            cases hL
          have hLb : bl ≠ L := fun z => by
            rw [← z, kb6] at hL
            cases hL
          refine lc_tup (K := K) (a := bo) (xs := o.map V.int) (fun (c : Nat) (H' : Hp) => Same H6 H' ∧ H' L = some (.lst (((o.take c).filter (fun p => !gF false A0 Kp j p)).map V.int))) ?_ ?_ ?_ ?_
          · exact ⟨same_new hL _, upd_same⟩
          · rintro c H' _ ⟨s7, _⟩
            exact sqt ((s6.trans s7) _ _ eo)
          · rintro c x H7 hx7 ⟨s7, k7⟩
            rw [List.getElem?_map] at hx7
            obtain ⟨p, hp7, rfl⟩ := Option.map_eq_some_iff.mp hx7
            have hpm := hoG.mem p (List.mem_of_getElem? hp7)
            have hfl := List.length_filter_le (fun p => !gF false A0 Kp j p) (o.take c)
            rw [List.length_take] at hfl
            have hnx : (o.take (c + 1)).filter (fun p => !gF false A0 Kp j p) = (o.take c).filter (fun p => !gF false A0 Kp j p) ++ (if (!gF false A0 Kp j p) = true then [p] else []) := by
              rw [List.take_add_one, hp7, List.filter_append]
              congr 1
              rw [Option.toList_some, List.filter_cons]
              cases (!gF false A0 Kp j p) <;> rfl
            have yes : gF false A0 Kp j p = false → ∃ acc, H7 L = some (.lst acc) ∧ acc.length < sizeLine ∧ (Same H6 (upd H7 L (.lst (acc ++ [V.int p]))) ∧ upd H7 L (.lst (acc ++ [V.int p])) L = some (.lst (((o.take (c + 1)).filter (fun p => !gF false A0 Kp j p)).map V.int))) := fun hy => by
              refine ⟨_, k7, big' (by rw [List.length_map]; omega), same_put s7 hL, ?_⟩
              rw [upd_same, hnx, hy, Bool.not_false, if_pos rfl, List.map_append]
              rfl
            refine ⟨rfl, ?_⟩
            refine ⟨_, rfl, _, rfl, rfl, _, rfl, ?_⟩
            by_cases hp1 : p = -1
            · subst hp1
              refine ifT (decide_eq_true rfl) ?_
              exact iteT ⟨_, rfl, yes (gF_out j)⟩
            · refine ifF (decide_eq_false (fun e => hp1 (V.int.inj e))) ?_
              refine ⟨_, rfl, _, rfl, bl, _, _, _, rfl, rfl, sqd (s7 _ _ kb6), rzL_get (by omega) (by omega), rfl, _, rfl, ?_⟩
              rw [rz_non]
              obtain ⟨a1, a2⟩ := says j p
              have hpp : czF A0 Kp j p.toNat = hz (gF false A0 Kp) j p := by
                unfold czF
                rw [show ((p.toNat : Nat) : Int) = p by omega]
              rw [hpp]
              by_cases hz0 : hz (gF false A0 Kp) j p < 0
              · rw [decide_eq_true hz0]
                exact iteT ⟨_, rfl, yes (a1 hz0)⟩
              · rw [decide_eq_false hz0]
                refine iteF ⟨s7, ?_⟩
                rw [hnx, (a2 (by omega)).1, Bool.not_true, if_neg Bool.false_ne_true, List.append_nil]
                exact k7
          · rintro H7 ⟨s7, k7⟩
            rw [List.length_map, List.take_length] at k7
            have kb7 := s7 _ _ kb6
            have kf7 := s7 _ _ kf6
            refine ⟨L, _, rfl, .inl (sqd k7), rfl, _, rfl, ?_⟩
            refine ite2 (fun z => ?_) (fun z => ?_)
            · have hz := int_eq z
              have hyes : o.all (gF false A0 Kp j) = true := by
                rw [List.length_map] at hz
                have hnil : o.filter (fun p => !gF false A0 Kp j p) = [] := List.length_eq_zero_iff.mp (by omega)
                rw [List.filter_eq_nil_iff] at hnil
                exact List.all_eq_true.mpr fun p hp => by
                  cases h : gF false A0 Kp j p with
                  | true => rfl
                  | false => exact absurd (by rw [h]; rfl) (hnil p hp)
              refine ⟨_, rfl, _, rfl, _, rfl, fl, _, _, _, rfl, rfl, kf7, ixN_in (by omega) (by rw [rzL_len]; omega), ?_⟩
              refine ⟨_, rfl, same_put (s6.trans s7) hflH, by rw [upd_ne (Ne.symm hne)]; exact kb7, ?_⟩
              rw [upd_same, hti, rzL_set hiA (by omega), hnext, hyes, Bool.or_true]
              congr 2
              refine rzL_ext fun k _ => ?_
              by_cases hk : k = i
              · rw [if_pos hk, if_pos ⟨hk, rfl⟩]
                omega
              · simp only [hk, false_and, if_false]
            · have hz := int_ne z
              have hno : o.all (gF false A0 Kp j) = false := by
                cases ha : o.all (gF false A0 Kp j) with
                | false => rfl
                | true =>
                  have hnil : o.filter (fun p => !gF false A0 Kp j p) = [] := List.filter_eq_nil_iff.mpr fun p hp => by
                    rw [List.all_eq_true.mp ha p hp]
                    exact Bool.false_ne_true
                  rw [hnil] at hz
                  exact absurd rfl hz
              refine ⟨some (.ref bo), rfl, s6.trans s7, kb7, ?_⟩
              rw [hnext, hno, Bool.or_false]
              exact kf7
        · rintro σ H6 ⟨y7, rfl, s6, kb6, kf6⟩
          rw [show os.take ys.length = os by rw [hyl]; exact List.take_length, ← hfj] at kf6
          refine ⟨_, _, rfl, s6, kb6, ?_⟩
          rw [kf6]
          congr 2
          refine rzL_ext fun k _ => ?_
          by_cases hk : k = i
          · rw [if_pos (show k < i + 1 by omega), hk, hstep, if_neg (show ¬ (0 : Int) ≤ czF A0 Kp j i by omega)]
            cases hf : gF false A0 Kp (j + 1) (i : Int) with
            | true => rw [if_pos ⟨rfl, rfl⟩, if_pos rfl]
            | false => rw [if_neg (fun e => Bool.false_ne_true e.2), if_neg (Nat.lt_irrefl i), if_neg Bool.false_ne_true, hm1]
          · rw [if_neg (fun e => hk e.1)]
            by_cases h : k < i
            · rw [if_pos h, if_pos (by omega)]
            · rw [if_neg h, if_neg (by omega)]
      · refine ifF (decide_eq_false hlt) ?_
        refine ⟨_, _, rfl, s5, kb5, ?_⟩
        rw [kf5]
        congr 2
        refine rzL_ext fun k _ => ?_
        by_cases h : k < i
        · rw [if_pos h, if_pos (by omega)]
        · rw [if_neg h]
          by_cases hk : k = i
          · rw [hk, if_pos (Nat.lt_succ_self i), hstep, if_pos (by omega)]
          · rw [if_neg (by omega)]
    · rintro σ H5 ⟨y4, y7, rfl, s5, kb5, kf5⟩
      have hall : (rzL A0.length fun k => if k < ((xs.length : Nat) : Int).toNat then czF A0 Kp (j + 1) k else czF A0 Kp j k) = rzL A0.length (czF A0 Kp (j + 1)) := rzL_ext fun k hk => if_pos (by omega)
      rw [hall] at kf5
      have hinj : rzL A0.length (czF A0 Kp (j + 1)) = rzL A0.length (czF A0 Kp j) → ∀ k, k < A0.length → czF A0 Kp (j + 1) k = czF A0 Kp j k := rzL_inj (fun k => hz_ge _ _ _) (fun k => hz_ge _ _ _)
      refine ⟨_, rfl, _, rfl, .list ((zs A0.length (czF A0 Kp (j + 1))).map fun z => rd (rz z)), .list ((zs A0.length (czF A0 Kp j)).map fun z => rd (rz z)), .lst (sqd kf5) (by rw [rzL_zs]; exact dp_rz _), .lst (sqd kb5) (by rw [rzL_zs]; exact dp_rz _), shaped_rz _, shaped_rz _, _, rfl, ?_⟩
      refine ite2 (fun z => ?_) (fun z => ?_)
      · have heq := hinj (by rw [rzL_zs, rzL_zs]; exact eqv_rz _ _ z)
        refine ⟨_, rfl, done (j + 1) H5 s5 kf5 fun L hL k hk => ?_⟩
        have hst : ∀ p, -1 ≤ p → p < (A0.length : Int) → gF false A0 Kp (j + 1) p = gF false A0 Kp j p := fun p h0 h1 => by
          by_cases hp : p = -1
          · rw [hp, gF_out, gF_out]
          · have hzz := heq p.toNat (by omega)
            unfold czF at hzz
            rw [show ((p.toNat : Nat) : Int) = p by omega] at hzz
            obtain ⟨a1, a2⟩ := says j p
            obtain ⟨b1, b2⟩ := says (j + 1) p
            by_cases h : 0 ≤ hz (gF false A0 Kp) j p
            · rw [(a2 h).1, (b2 (by omega)).1]
            · rw [a1 (by omega), b1 (by omega)]
        have hstop := mr_stop (side := 0) (am := psA A0.length) (M := mkO false (fun p => if false = true then !decide (p ∈ Kp) else decide (p ∈ Kp))) hG.inA hst
        rw [show gF false A0 Kp L (k : Int) = _ from hstop L (by omega) k (by omega) (by omega), show gF false A0 Kp (j + 1) (k : Int) = _ from hstop (j + 1) (by omega) k (by omega) (by omega)]
      · refine ⟨_, _, _, _, rfl, s5, kf5, fun k hk => ?_⟩
        by_cases hkj : k < j
        · exact hgr k hkj
        · have : k = j := by omega
          subst this
          by_cases hex : ∃ i : Nat, i < A0.length ∧ czF A0 Kp (k + 1) i ≠ czF A0 Kp k i
          · obtain ⟨i, hi, hne2⟩ := hex
            refine ⟨i, hi, ?_⟩
            have hstep : czF A0 Kp (k + 1) i = if 0 ≤ czF A0 Kp k i then czF A0 Kp k i else if gF false A0 Kp (k + 1) (i : Int) = true then ((k + 1 : Nat) : Int) else -1 := rfl
            have hge := hz_ge (gF false A0 Kp) k (i : Int)
            by_cases h0 : 0 ≤ czF A0 Kp k i
            · rw [if_pos h0] at hstep
              exact absurd hstep hne2
            · rw [if_neg h0] at hstep
              have hm1 : czF A0 Kp k i = -1 := by unfold czF at h0 ⊢; omega
              refine ⟨(says k (i : Int)).1 (by unfold czF at h0; omega), ?_⟩
              cases hf : gF false A0 Kp (k + 1) (i : Int) with
              | true => rfl
              | false =>
                rw [hf, if_neg Bool.false_ne_true] at hstep
                exact absurd (hstep.trans hm1.symm) hne2
          · exfalso
            have heq : zs A0.length (czF A0 Kp (k + 1)) = zs A0.length (czF A0 Kp k) := List.map_congr_left fun i hi => by
              by_cases h : czF A0 Kp (k + 1) i = czF A0 Kp k i
              · exact h
              · exact absurd ⟨i, List.mem_range.mp hi, h⟩ hex
            apply z
            rw [heq]
            exact eqv_reflR _
  · rintro σ H3 ⟨y4, y5, y6, y7, rfl, s3, kf3, hgr⟩
    rw [show ((xs.length : Int) + 1 - 1).toNat = A0.length by omega] at kf3 hgr
    refine ⟨_, rfl, done A0.length H3 s3 kf3 fun L hL k hk => ?_⟩
    have hc := cnt_rounds (f := gF false A0 Kp) (fun k p e => gF_up k p e) A0.length hgr
    have hfull := cnt_full (f := gF false A0 Kp A0.length) (Nat.le_antisymm (cnt_le _ _) hc) k hk
    rw [hfull]
    exact up_le (fun k p e => gF_up k p e) hL hfull
end
end NL

set_option maxHeartbeats 4000000
namespace NL
open PySem PySem.Spec PyProof.Rows L2
/-! ### least costs home, as functions -/
def OptAt (A : Ar) (k i : Nat) (o : Opt) : Prop := ∃ os, A[k]? = some os ∧ os[i]? = some o
theorem OptAt.good {A : Ar} (hG : ArG A) {k i : Nat} {o : Opt} (h : OptAt A k i o) : OptG A.length o ∧ k < A.length := by
  obtain ⟨os, h1, h2⟩ := h
  exact ⟨(hG.2 os (List.mem_of_getElem? h1)).2 o (List.mem_of_getElem? h2), (List.getElem?_eq_some_iff.mp h1).1⟩
theorem OptAt.uniq {A : Ar} {k i : Nat} {o o' : Opt} (h : OptAt A k i o) (h' : OptAt A k i o') : o = o' := by
  obtain ⟨os, h1, h2⟩ := h
  obtain ⟨os', h3, h4⟩ := h'
  rw [h1] at h3
  cases h3
  rw [h2] at h4
  exact Option.some.inj h4
abbrev Tl := Int → Option Int
def UpTo (T : Tl) (o : Opt) (M : Int) : Prop := ∀ s ∈ o, s ≠ -1 ∧ ∃ v, T s = some v ∧ v ≤ M
def Fnd (A : Ar) (c : Nat → Nat → Int) (T : Tl) (O : List Int) (k : Nat) (w : Int) : Prop := ∃ i o M, OptAt A k i o ∧ c k i + M ≤ w ∧ ∀ s ∈ o, s ≠ -1 ∧ s ∈ O ∧ ∃ v, T s = some v ∧ v ≤ M
structure Sol (A : Ar) (c : Nat → Nat → Int) (hm : List Int) (T : Tl) (O : List Int) : Prop where
  nd : O.Nodup
  inn : ∀ x ∈ O, 0 ≤ x ∧ x < (A.length : Int)
  dom : ∀ x w, T x = some w → x ∈ O
  nn : ∀ x w, T x = some w → 0 ≤ w
  hom : ∀ x ∈ hm, T x = some 0
  cl : ∀ k i o M, OptAt A k i o → UpTo T o M → ∃ w, T (k : Int) = some w ∧ w ≤ c k i + M
  fd : ∀ (j : Nat) (k : Nat) w, O[j]? = some (k : Int) → T (k : Int) = some w → (k : Int) ∈ hm ∨ Fnd A c T (O.take j) k w
structure Rnd (A : Ar) (c : Nat → Nat → Int) (hm : List Int) (B D : Tl) : Prop where
  hom : ∀ k : Nat, (k : Int) ∈ hm → D (k : Int) = B (k : Int)
  ub : ∀ (k i : Nat) o M, (k : Int) ∉ hm → OptAt A k i o → UpTo B o M → ∃ w, D (k : Int) = some w ∧ w ≤ c k i + M
  src : ∀ (k : Nat) w, k < A.length → D (k : Int) = some w → B (k : Int) = some w ∨ ∃ i o M, OptAt A k i o ∧ UpTo B o M ∧ w = c k i + M
theorem nd_len (lo : Int) : ∀ (n : Nat) (l : List Int), l.Nodup → (∀ x ∈ l, lo ≤ x ∧ x < lo + n) → l.length ≤ n
  | 0, l, _, h => by
    cases l with
    | nil => exact Nat.le_refl 0
    | cons a r =>
      have := h a (List.mem_cons_self ..)
      omega
  | n + 1, l, hd, h => by
    have h2 := nd_len lo n (l.erase (lo + n)) (hd.erase _) fun x hx => by
      have h3 := (List.Nodup.mem_erase_iff hd).mp hx
      have := h x h3.2
      have h4 := h3.1
      omega
    have := List.length_erase (a := lo + (n : Int)) (l := l)
    split at this <;> omega
theorem nd_lenN (n : Nat) (l : List Int) (hn : l.Nodup) (h : ∀ x ∈ l, 0 ≤ x ∧ x < (n : Int)) : l.length ≤ n := nd_len 0 n l hn fun x hx => by have := h x hx; omega
theorem nat_of {x : Int} {n : Nat} (h0 : 0 ≤ x) (h1 : x < (n : Int)) : ∃ k : Nat, x = (k : Int) ∧ k < n := ⟨x.toNat, by omega, by omega⟩
section
variable {A : Ar} {c : Nat → Nat → Int} {hm : List Int} {T : Tl} {O : List Int}
theorem due_low (hG : ArG A) (S : Sol A c hm T O) {D : Nat → Tl} (h0 : ∀ k : Nat, k < A.length → ∀ w, D 0 (k : Int) = some w → (k : Int) ∈ hm ∧ w = 0) : ∀ t : Nat, (∀ t', t' < t → Rnd A c hm (D t') (D (t' + 1))) → ∀ (k : Nat) w, k < A.length → D t (k : Int) = some w → ∃ w', T (k : Int) = some w' ∧ w' ≤ w
  | 0, _, k, w, hk, h => by
    obtain ⟨a, rfl⟩ := h0 k hk w h
    exact ⟨0, S.hom _ a, Int.le_refl 0⟩
  | t + 1, hR, k, w, hk, h => by
    have ih := due_low hG S h0 t (fun t' ht => hR t' (by omega))
    rcases (hR t (by omega)).src k w hk h with e | ⟨i, o, M, ho, hu, rfl⟩
    · exact ih k w hk e
    · refine S.cl k i o M ho fun s hs => ?_
      obtain ⟨g, _⟩ := ho.good hG
      obtain ⟨h1, v, h2, h3⟩ := hu s hs
      have hm2 := g.mem s hs
      obtain ⟨s', rfl, hs'⟩ := nat_of (n := A.length) (show 0 ≤ s by omega) hm2.2
      obtain ⟨v', h4, h5⟩ := ih s' v hs' h2
      exact ⟨h1, v', h4, by omega⟩
theorem due_up (hG : ArG A) (S : Sol A c hm T O) {D : Nat → Tl} (h0 : ∀ k : Nat, (k : Int) ∈ hm → D 0 (k : Int) = some 0) {n : Nat} (hR : ∀ t, t < n → Rnd A c hm (D t) (D (t + 1))) : ∀ (j : Nat) (k : Nat) w, O[j]? = some (k : Int) → T (k : Int) = some w → ∀ t, t ≤ n → j ≤ t → ∃ w', D t (k : Int) = some w' ∧ w' ≤ w := by
  have home : ∀ k : Nat, (k : Int) ∈ hm → ∀ t, t ≤ n → D t (k : Int) = some 0 := fun k hk t => by
    induction t with
    | zero => exact fun _ => h0 k hk
    | succ t ih => exact fun ht => by rw [(hR t (by omega)).hom k hk]; exact ih (by omega)
  intro j
  induction j using Nat.strongRecOn with
  | ind j ih =>
    intro k w hj hT t ht hjt
    rcases S.fd j k w hj hT with hk | ⟨i, o, M, ho, hle, hall⟩
    · have e := S.hom _ hk
      rw [hT] at e
      cases e
      exact ⟨0, home k hk t ht, Int.le_refl 0⟩
    · by_cases hk : (k : Int) ∈ hm
      · have e := S.hom _ hk
        rw [hT] at e
        cases e
        exact ⟨0, home k hk t ht, Int.le_refl 0⟩
      obtain ⟨g, _⟩ := ho.good hG
      have pl : ∀ s ∈ o, ∃ j' , j' < j ∧ O[j']? = some s := fun s hs => by
        obtain ⟨j', hj'⟩ := List.getElem?_of_mem (hall s hs).2.1
        rw [List.getElem?_take] at hj'
        split at hj'
        · exact ⟨j', by assumption, hj'⟩
        · cases hj'
      have hjp : 0 < j := by
        obtain ⟨s, hs⟩ := List.exists_mem_of_ne_nil _ g.ne
        obtain ⟨j', h1, _⟩ := pl s hs
        omega
      obtain ⟨t', rfl⟩ : ∃ t', t = t' + 1 := ⟨t - 1, by omega⟩
      obtain ⟨w', h1, h2⟩ := (hR t' (by omega)).ub k i o M hk ho fun s hs => by
        obtain ⟨j', h3, h4⟩ := pl s hs
        obtain ⟨h5, _, v, h6, h7⟩ := hall s hs
        obtain ⟨s', rfl, _⟩ := nat_of (n := A.length) (show 0 ≤ s by have := g.mem s hs; omega) (g.mem s hs).2
        obtain ⟨v', h8, h9⟩ := ih j' h3 s' v h4 h6 t' (by omega) (by omega)
        exact ⟨h5, v', h8, by omega⟩
      exact ⟨w', h1, by omega⟩
theorem Sol.idx (S : Sol A c hm T O) {k : Nat} {w : Int} (h : T (k : Int) = some w) : ∃ j, j < A.length ∧ O[j]? = some (k : Int) := by
  obtain ⟨j, hj⟩ := List.getElem?_of_mem (S.dom _ w h)
  have h1 := (List.getElem?_eq_some_iff.mp hj).1
  have h2 := nd_lenN A.length O S.nd S.inn
  exact ⟨j, by omega, hj⟩
theorem due_is (hG : ArG A) (S : Sol A c hm T O) {D : Nat → Tl} (h0 : ∀ k : Nat, k < A.length → D 0 (k : Int) = if (k : Int) ∈ hm then some 0 else none) (hhm : ∀ x ∈ hm, 0 ≤ x ∧ x < (A.length : Int)) (hR : ∀ t, t < A.length → Rnd A c hm (D t) (D (t + 1))) (k : Nat) (hk : k < A.length) : D A.length (k : Int) = T (k : Int) := by
  have lo := due_low hG S (D := D) (fun k hk w h => by
    rw [h0 k hk] at h
    by_cases hm' : (k : Int) ∈ hm
    · rw [if_pos hm'] at h
      cases h
      exact ⟨hm', rfl⟩
    · rw [if_neg hm'] at h
      cases h) A.length hR
  have up := due_up hG S (D := D) (fun k hk => by
    rw [h0 k (by have := hhm _ hk; omega), if_pos hk]) hR
  cases hT : T (k : Int) with
  | none =>
    cases hD : D A.length (k : Int) with
    | none => rfl
    | some w =>
      obtain ⟨w', h1, _⟩ := lo k w hk hD
      rw [hT] at h1
      cases h1
  | some w =>
    obtain ⟨j, hj, hO⟩ := S.idx hT
    obtain ⟨w', h1, h2⟩ := up j k w hO hT A.length (Nat.le_refl _) (by omega)
    obtain ⟨w2, h3, h4⟩ := lo k w' hk h1
    rw [hT] at h3
    cases h3
    rw [h1]
    congr 1
    omega
/-! ### with costs of 1 they are ranks -/
theorem rank_low (hG : ArG A) (S : Sol A (fun _ _ => 1) hm T O) : ∀ (t k : Nat), k < A.length → gF false A hm t (k : Int) = true → ∃ w, T (k : Int) = some w ∧ w ≤ (t : Int)
  | 0, k, hk, h => by
    rw [gF_0 (by omega), if_neg Bool.false_ne_true] at h
    exact ⟨0, S.hom _ (of_decide_eq_true h), Int.le_refl 0⟩
  | t + 1, k, hk, h => by
    have ih := rank_low hG S t
    obtain ⟨os, hos⟩ : ∃ os, A[k]? = some os := ⟨_, List.getElem?_eq_getElem hk⟩
    rw [gF_sc hos, Bool.or_eq_true] at h
    rcases h with h | h
    · obtain ⟨w, h1, h2⟩ := ih k hk h
      exact ⟨w, h1, by omega⟩
    · obtain ⟨o, ho, hall⟩ := List.any_eq_true.mp h
      obtain ⟨i, hi⟩ := List.getElem?_of_mem ho
      have hoA : OptAt A k i o := ⟨os, hos, hi⟩
      obtain ⟨g, _⟩ := hoA.good hG
      obtain ⟨w, h1, h2⟩ := S.cl k i o (t : Int) hoA fun s hs => by
        have hf := List.all_eq_true.mp hall s hs
        have hne : s ≠ -1 := fun e => by
          rw [e, gF_out] at hf
          cases hf
        have hm2 := g.mem s hs
        obtain ⟨s', rfl, hs'⟩ := nat_of (n := A.length) (show 0 ≤ s by omega) hm2.2
        obtain ⟨v, h3, h4⟩ := ih s' hs' hf
        exact ⟨hne, v, h3, h4⟩
      exact ⟨w, h1, by omega⟩
theorem rank_up (hG : ArG A) (S : Sol A (fun _ _ => 1) hm T O) : ∀ (j k : Nat) w, O[j]? = some (k : Int) → T (k : Int) = some w → gF false A hm w.toNat (k : Int) = true := by
  intro j
  induction j using Nat.strongRecOn with
  | ind j ih =>
    intro k w hj hT
    have home : (k : Int) ∈ hm → gF false A hm w.toNat (k : Int) = true := fun hk => by
      have e := S.hom _ hk
      rw [hT] at e
      cases e
      rw [show (0 : Int).toNat = 0 from rfl, gF_0 (by omega), if_neg Bool.false_ne_true]
      exact decide_eq_true hk
    rcases S.fd j k w hj hT with hk | ⟨i, o, M, ho, hle, hall⟩
    · exact home hk
    · obtain ⟨g, hk⟩ := ho.good hG
      obtain ⟨os, hos, hi⟩ := id ho
      have hM : 0 ≤ M := by
        obtain ⟨s, hs⟩ := List.exists_mem_of_ne_nil _ g.ne
        obtain ⟨_, _, v, h6, h7⟩ := hall s hs
        have := S.nn s v h6
        omega
      have hle : 1 + M ≤ w := hle
      have hw : w.toNat = (w - 1).toNat + 1 := by omega
      rw [hw, gF_sc hos, Bool.or_eq_true]
      refine .inr (List.any_eq_true.mpr ⟨o, List.mem_of_getElem? hi, List.all_eq_true.mpr fun s hs => ?_⟩)
      obtain ⟨h5, hsO, v, h6, h7⟩ := hall s hs
      obtain ⟨j', hj'⟩ := List.getElem?_of_mem hsO
      rw [List.getElem?_take] at hj'
      split at hj'
      · rename_i hlt
        obtain ⟨s', rfl, _⟩ := nat_of (n := A.length) (show 0 ≤ s by have := g.mem s hs; omega) (g.mem s hs).2
        have hv := S.nn _ v h6
        exact up_le (fun k p e => gF_up k p e) (show v.toNat ≤ (w - 1).toNat by omega) (ih j' hlt s' v hj' h6)
      · cases hj'
theorem rank_is (hG : ArG A) (S : Sol A (fun _ _ => 1) hm T O) (k : Nat) (hk : k < A.length) : T (k : Int) = (gR false A hm (k : Int)).map fun r : Nat => (r : Int) := by
  have hR := gR_is false A hm (k : Int)
  cases hT : T (k : Int) with
  | none =>
    cases hr : gR false A hm (k : Int) with
    | none => rfl
    | some r =>
      rw [hr] at hR
      obtain ⟨w, h1, _⟩ := rank_low hG S r k hk hR.1
      rw [hT] at h1
      cases h1
  | some w =>
    obtain ⟨j, _, hO⟩ := S.idx hT
    have h1 := rank_up hG S j k w hO hT
    have hw := S.nn _ w hT
    cases hr : gR false A hm (k : Int) with
    | none =>
      rw [hr] at hR
      rw [hR w.toNat] at h1
      cases h1
    | some r =>
      rw [hr] at hR
      obtain ⟨w', h2, h3⟩ := rank_low hG S r k hk hR.1
      rw [hT] at h2
      cases h2
      have h4 : r ≤ w.toNat := by
        rcases Nat.lt_or_ge w.toNat r with z | z
        · rw [hR.2 _ z] at h1
          cases h1
        · exact z
      show some w = some ((r : Nat) : Int)
      congr 1
      omega
end
end NL

set_option maxHeartbeats 4000000
namespace NL
open PySem PySem.Spec PyProof.Rows L2
/-! ### the search, state by state -/
def setT (T : Tl) (a : Int) (w : Option Int) : Tl := fun x => if x = a then w else T x
theorem setT_same {T : Tl} {a : Int} {w : Option Int} : setT T a w a = w := if_pos rfl
theorem setT_ne {T : Tl} {a x : Int} {w : Option Int} (h : x ≠ a) : setT T a w x = T x := if_neg h
structure Dj (A : Ar) (c : Nat → Nat → Int) (hm : List Int) (T F : Tl) (O : List Int) (c0 : Int) (P : Nat → Nat → Prop) : Prop where
  nd : O.Nodup
  inn : ∀ x ∈ O, 0 ≤ x ∧ x < (A.length : Int)
  dom : ∀ x w, T x = some w → x ∈ O
  has : ∀ x ∈ O, ∃ w, T x = some w
  c00 : 0 ≤ c0
  nn : ∀ x w, T x = some w → 0 ≤ w ∧ w ≤ c0
  fn : ∀ x w, F x = some w → c0 ≤ w ∧ T x = none ∧ 0 ≤ x ∧ x < (A.length : Int)
  hom : ∀ x ∈ hm, T x = some 0 ∨ F x = some 0
  cl : ∀ k i o M, OptAt A k i o → P k i → UpTo T o M → (∃ w, T (k : Int) = some w ∧ w ≤ c k i + M) ∨ ∃ w, F (k : Int) = some w ∧ w ≤ c k i + M
  fdT : ∀ (j : Nat) (k : Nat) w, O[j]? = some (k : Int) → T (k : Int) = some w → (k : Int) ∈ hm ∨ Fnd A c T (O.take j) k w
  fdF : ∀ (k : Nat) w, F (k : Int) = some w → (k : Int) ∈ hm ∨ Fnd A c T O k w
section
variable {A : Ar} {c : Nat → Nat → Int} {hm : List Int} {T F : Tl} {O : List Int} {c0 : Int} {P : Nat → Nat → Prop}
theorem dj_start (hG : ArG A) (hhm : ∀ x ∈ hm, 0 ≤ x ∧ x < (A.length : Int)) : Dj A c hm (fun _ => none) (fun x => if x ∈ hm then some 0 else none) [] 0 fun _ _ => True := by
  refine ⟨List.nodup_nil, fun x h => (nomatch h), fun x w h => (nomatch h), fun x h => (nomatch h), Int.le_refl 0, fun x w h => (nomatch h), fun x w h => ?_, fun x hx => .inr (if_pos hx), fun k i o M ho _ hu => ?_, fun j k w h => (nomatch h), fun k w h => .inl ?_⟩
  · by_cases hx : x ∈ hm
    · rw [if_pos hx] at h
      cases h
      exact ⟨Int.le_refl 0, rfl, hhm x hx⟩
    · rw [if_neg hx] at h
      cases h
  · obtain ⟨g, _⟩ := ho.good hG
    obtain ⟨s, hs⟩ := List.exists_mem_of_ne_nil _ g.ne
    obtain ⟨_, v, h, _⟩ := hu s hs
    cases h
  · by_cases hx : (k : Int) ∈ hm
    · exact hx
    · rw [if_neg hx] at h
      cases h
theorem Dj.end_ (S : Dj A c hm T F O c0 fun _ _ => True) (hF : ∀ x, F x = none) : Sol A c hm T O := by
  refine ⟨S.nd, S.inn, S.dom, fun x w h => (S.nn x w h).1, fun x hx => ?_, fun k i o M ho hu => ?_, S.fdT⟩
  · rcases S.hom x hx with h | h
    · exact h
    · rw [hF] at h
      cases h
  · rcases S.cl k i o M ho trivial hu with h | ⟨w, h, _⟩
    · exact h
    · rw [hF] at h
      cases h
theorem Fnd.mono {T' : Tl} {O' : List Int} {k : Nat} {w : Int} (h : Fnd A c T O k w) (hT : ∀ x ∈ O, T' x = T x) (hO : ∀ x ∈ O, x ∈ O') : Fnd A c T' O' k w := by
  obtain ⟨i, o, M, h1, h2, h3⟩ := h
  refine ⟨i, o, M, h1, h2, fun s hs => ?_⟩
  obtain ⟨h4, h5, v, h6, h7⟩ := h3 s hs
  exact ⟨h4, hO s h5, v, by rw [hT s h5]; exact h6, h7⟩
/-- the least one is told -/
theorem Dj.take (S : Dj A c hm T F O c0 fun _ _ => True) {a w : Int} (hF : F a = some w) (hmin : ∀ x v, F x = some v → w ≤ v) : Dj A c hm (setT T a (some w)) (setT F a none) (O ++ [a]) w fun k i => ∀ o, OptAt A k i o → a ∉ o := by
  obtain ⟨f1, f2, f3, f4⟩ := S.fn a w hF
  have haO : a ∉ O := fun h => by
    obtain ⟨v, hv⟩ := S.has a h
    rw [f2] at hv
    cases hv
  have neO : ∀ x ∈ O, x ≠ a := fun x hx e => haO (e ▸ hx)
  have keep : ∀ x ∈ O, setT T a (some w) x = T x := fun x hx => setT_ne (neO x hx)
  refine ⟨?_, fun x hx => ?_, fun x v h => ?_, fun x hx => ?_, by have := S.c00; omega, fun x v h => ?_, fun x v h => ?_, fun x hx => ?_, fun k i o M ho hP hu => ?_, fun j k v hj hT => ?_, fun k v h => ?_⟩
  · rw [List.nodup_append]
    refine ⟨S.nd, List.nodup_cons.mpr ⟨List.not_mem_nil, List.nodup_nil⟩, fun x hx y hy => ?_⟩
    rw [List.mem_singleton.mp hy]
    exact neO x hx
  · rcases List.mem_append.mp hx with h | h
    · exact S.inn x h
    · rw [List.mem_singleton.mp h]
      exact ⟨f3, f4⟩
  · by_cases e : x = a
    · rw [e]
      exact List.mem_append_right _ List.mem_cons_self
    · rw [setT_ne e] at h
      exact List.mem_append_left _ (S.dom x v h)
  · rcases List.mem_append.mp hx with h | h
    · rw [keep x h]
      exact S.has x h
    · rw [List.mem_singleton.mp h]
      exact ⟨w, setT_same⟩
  · by_cases e : x = a
    · rw [e, setT_same] at h
      cases h
      have := S.c00
      omega
    · rw [setT_ne e] at h
      have := S.nn x v h
      omega
  · by_cases e : x = a
    · rw [e, setT_same] at h
      cases h
    · rw [setT_ne e] at h
      obtain ⟨g1, g2, g3⟩ := S.fn x v h
      exact ⟨hmin x v h, by rw [setT_ne e]; exact g2, g3⟩
  · by_cases e : x = a
    · subst e
      rcases S.hom x hx with h | h
      · rw [f2] at h
        cases h
      · rw [hF] at h
        cases h
        exact .inl setT_same
    · rw [setT_ne e, setT_ne e]
      exact S.hom x hx
  · have hao := hP o ho
    have hu' : UpTo T o M := fun s hs => by
      obtain ⟨h1, v, h2, h3⟩ := hu s hs
      have e : s ≠ a := fun e => hao (e ▸ hs)
      rw [setT_ne e] at h2
      exact ⟨h1, v, h2, h3⟩
    rcases S.cl k i o M ho trivial hu' with ⟨v, h, h'⟩ | ⟨v, h, h'⟩
    · refine .inl ⟨v, ?_, h'⟩
      rw [setT_ne (neO _ (S.dom _ v h))]
      exact h
    · by_cases e : (k : Int) = a
      · rw [e, hF] at h
        cases h
        exact .inl ⟨w, by rw [e]; exact setT_same, h'⟩
      · exact .inr ⟨v, by rw [setT_ne e]; exact h, h'⟩
  · by_cases hlt : j < O.length
    · rw [List.getElem?_append_left hlt] at hj
      have hkO := List.mem_of_getElem? hj
      rw [keep _ hkO] at hT
      rw [List.take_append_of_le_length (by omega)]
      rcases S.fdT j k v hj hT with h | h
      · exact .inl h
      · exact .inr (h.mono (fun x hx => keep x (List.mem_of_mem_take hx)) fun x hx => hx)
    · have hl := (List.getElem?_eq_some_iff.mp hj).1
      rw [List.length_append] at hl
      have hl : j < O.length + 1 := hl
      have hje : j = O.length := by omega
      subst hje
      rw [List.getElem?_append_right (Nat.le_refl _), Nat.sub_self] at hj
      have hak : a = (k : Int) := Option.some.inj hj
      subst hak
      rw [setT_same] at hT
      cases hT
      rw [List.take_append_of_le_length (Nat.le_refl _), List.take_length]
      rcases S.fdF k w hF with h | h
      · exact .inl h
      · exact .inr (h.mono keep fun x hx => hx)
  · by_cases e : (k : Int) = a
    · rw [e, setT_same] at h
      cases h
    · rw [setT_ne e] at h
      rcases S.fdF k v h with h | h
      · exact .inl h
      · exact .inr (h.mono keep fun x hx => List.mem_append_left _ hx)
/-- an option that leads to the one just told, not all told yet, or its position told -/
theorem Dj.skip (S : Dj A c hm T F O c0 P) {k0 i0 : Nat} {o0 : Opt} {a : Int} (h0 : OptAt A k0 i0 o0) (hc : 0 ≤ c k0 i0) (ha : a ∈ o0) (hTa : T a = some c0) (hs : (∃ s ∈ o0, T s = none) ∨ T (k0 : Int) ≠ none) : Dj A c hm T F O c0 fun k i => P k i ∨ (k = k0 ∧ i = i0) := by
  refine ⟨S.nd, S.inn, S.dom, S.has, S.c00, S.nn, S.fn, S.hom, fun k i o M ho hP hu => ?_, S.fdT, S.fdF⟩
  rcases hP with h | ⟨rfl, rfl⟩
  · exact S.cl k i o M ho h hu
  · cases ho.uniq h0
    rcases hs with ⟨s, h1, h2⟩ | h
    · obtain ⟨_, v, h3, _⟩ := hu s h1
      rw [h2] at h3
      cases h3
    · obtain ⟨_, v, h3, h4⟩ := hu a ha
      rw [hTa] at h3
      cases h3
      cases hk : T (k : Int) with
      | none => exact absurd hk h
      | some w =>
        have := (S.nn _ w hk).2
        exact .inl ⟨w, rfl, by omega⟩
/-- an option all of whose successors are told, from a position that isn't -/
theorem Dj.find (S : Dj A c hm T F O c0 P) {k0 i0 : Nat} {o0 : Opt} {a : Int} (hk0 : k0 < A.length) (h0 : OptAt A k0 i0 o0) (hc : 0 ≤ c k0 i0) (ha : a ∈ o0) (hTa : T a = some c0) (hall : ∀ s ∈ o0, s ≠ -1 ∧ ∃ v, T s = some v) (hT : T (k0 : Int) = none) {w : Int} (hw1 : w ≤ c0 + c k0 i0) (hw2 : w = c0 + c k0 i0 ∨ F (k0 : Int) = some w) (hw3 : ∀ v, F (k0 : Int) = some v → w ≤ v) : Dj A c hm T (setT F (k0 : Int) (some w)) O c0 fun k i => P k i ∨ (k = k0 ∧ i = i0) := by
  have hwc : c0 ≤ w := by
    rcases hw2 with e | e
    · omega
    · exact (S.fn _ w e).1
  refine ⟨S.nd, S.inn, S.dom, S.has, S.c00, S.nn, fun x v h => ?_, fun x hx => ?_, fun k i o M ho hP hu => ?_, S.fdT, fun k v h => ?_⟩
  · by_cases e : x = (k0 : Int)
    · rw [e, setT_same] at h
      cases h
      rw [e]
      exact ⟨hwc, hT, by omega, by omega⟩
    · rw [setT_ne e] at h
      exact S.fn x v h
  · by_cases e : x = (k0 : Int)
    · subst e
      rcases S.hom _ hx with h | h
      · exact .inl h
      · have := hw3 0 h
        have := S.c00
        refine .inr ?_
        rw [setT_same]
        congr 1
        omega
    · rw [setT_ne e]
      exact S.hom x hx
  · have old : (∃ w, T (k : Int) = some w ∧ w ≤ c k i + M) ∨ (∃ w, F (k : Int) = some w ∧ w ≤ c k i + M) → (∃ w, T (k : Int) = some w ∧ w ≤ c k i + M) ∨ ∃ v, setT F (k0 : Int) (some w) (k : Int) = some v ∧ v ≤ c k i + M := fun h => by
      rcases h with h | ⟨v, h, h'⟩
      · exact .inl h
      · by_cases e : (k : Int) = (k0 : Int)
        · rw [e] at h
          have := hw3 v h
          exact .inr ⟨w, by rw [e]; exact setT_same, by omega⟩
        · exact .inr ⟨v, by rw [setT_ne e]; exact h, h'⟩
    rcases hP with h | ⟨rfl, rfl⟩
    · exact old (S.cl k i o M ho h hu)
    · cases ho.uniq h0
      obtain ⟨_, v, h3, h4⟩ := hu a ha
      rw [hTa] at h3
      cases h3
      exact .inr ⟨w, setT_same, by omega⟩
  · by_cases e : (k : Int) = (k0 : Int)
    · have e' : k = k0 := by omega
      subst e'
      rw [setT_same] at h
      cases h
      rcases hw2 with e2 | e2
      · refine .inr ⟨i0, o0, c0, h0, by omega, fun s hs => ?_⟩
        obtain ⟨h1, v, h2⟩ := hall s hs
        exact ⟨h1, S.dom s v h2, v, h2, (S.nn s v h2).2⟩
      · exact S.fdF k w e2
    · rw [setT_ne e] at h
      exact S.fdF k v h
theorem Dj.imp {Q : Nat → Nat → Prop} (S : Dj A c hm T F O c0 P) (h : ∀ k i o, OptAt A k i o → Q k i → P k i) : Dj A c hm T F O c0 Q :=
  ⟨S.nd, S.inn, S.dom, S.has, S.c00, S.nn, S.fn, S.hom, fun k i o M ho hQ hu => S.cl k i o M ho (h k i o ho hQ) hu, S.fdT, S.fdF⟩
end
/-! ### how many successors are not told -/
def mis (T : Tl) (o : Opt) : Int := (o.filter fun s => (T s).isNone).length
theorem mis_start (o : Opt) : mis (fun _ => none) o = o.length := by
  unfold mis
  have e : (o.filter fun s => ((fun _ => none : Tl) s).isNone) = o := List.filter_eq_self.mpr fun x _ => rfl
  rw [e]
theorem mis_zero {T : Tl} {o : Opt} : mis T o = 0 ↔ ∀ s ∈ o, ∃ v, T s = some v := by
  unfold mis
  rw [show (((o.filter fun s => (T s).isNone).length : Nat) : Int) = 0 ↔ (o.filter fun s => (T s).isNone) = [] by rw [← List.length_eq_zero_iff]; omega, List.filter_eq_nil_iff]
  constructor
  · intro h s hs
    have := h s hs
    cases e : T s with
    | none => rw [e] at this; exact absurd rfl this
    | some v => exact ⟨v, rfl⟩
  · intro h s hs e
    obtain ⟨v, hv⟩ := h s hs
    rw [hv] at e
    cases e
theorem mis_set {T : Tl} {a w : Int} (hT : T a = none) : ∀ {o : Opt}, o.Nodup → mis (setT T a (some w)) o = mis T o - if a ∈ o then 1 else 0
  | [], _ => rfl
  | s :: o, h => by
    obtain ⟨h1, h2⟩ := List.nodup_cons.mp h
    have ih := mis_set (w := w) hT h2
    unfold mis at ih ⊢
    rw [List.filter_cons, List.filter_cons]
    by_cases e : s = a
    · subst e
      rw [setT_same, hT, if_neg (show ¬ (some w).isNone = true from Bool.false_ne_true), if_pos (show (none : Option Int).isNone = true from rfl), if_pos List.mem_cons_self, ih, if_neg h1, List.length_cons]
      omega
    · rw [setT_ne e]
      have hm : (a ∈ s :: o) ↔ a ∈ o := ⟨fun h => by
        rcases List.mem_cons.mp h with h | h
        · exact absurd h.symm e
        · exact h, List.mem_cons_of_mem _⟩
      have hi : (if a ∈ s :: o then (1 : Int) else 0) = if a ∈ o then 1 else 0 := by
        by_cases ho : a ∈ o
        · rw [if_pos ho, if_pos (hm.mpr ho)]
        · rw [if_neg ho, if_neg fun h => ho (hm.mp h)]
      rw [hi]
      split
      · rw [List.length_cons, List.length_cons]
        omega
      · exact ih
end NL

set_option maxHeartbeats 4000000
namespace NL
open PySem PySem.Spec PyProof.Rows L2
/-! ### lists of costs, None where there is none -/
def ovV : Option Int → V
  | none => .non
  | some i => .int i
def tlV (n : Nat) (D : Tl) : List V := (List.range n).map fun k : Nat => ovV (D (k : Int))
theorem tlV_len (n : Nat) (D : Tl) : (tlV n D).length = n := by unfold tlV; rw [List.length_map, List.length_range]
theorem tlV_at {n : Nat} {D : Tl} {k : Nat} (h : k < n) : (tlV n D)[k]? = some (ovV (D (k : Int))) := by
  unfold tlV
  rw [List.getElem?_map, List.getElem?_range h]
  rfl
theorem tlV_get {n : Nat} {D : Tl} {p : Int} (h0 : 0 ≤ p) (h1 : p < (n : Int)) : atI (tlV n D) p = some (ovV (D p)) := by
  obtain ⟨k, rfl, hk⟩ := nat_of h0 h1
  exact atI_nat (tlV_at hk)
theorem tlV_ext {n : Nat} {D E : Tl} (h : ∀ k : Nat, k < n → D (k : Int) = E (k : Int)) : tlV n D = tlV n E := List.map_congr_left fun k hk => by rw [h k (List.mem_range.mp hk)]
theorem tlV_set {n i : Nat} {D : Tl} {w : Option Int} (hi : i < n) : (tlV n D).set i (ovV w) = tlV n (setT D (i : Int) w) := by
  refine List.ext_getElem? fun k => ?_
  rw [List.getElem?_set]
  by_cases hk : i = k
  · subst hk
    rw [if_pos rfl, if_pos (by rw [tlV_len]; exact hi), tlV_at hi, setT_same]
  · rw [if_neg hk]
    rcases Nat.lt_or_ge k n with h | h
    · rw [tlV_at h, tlV_at h, setT_ne (by omega)]
    · rw [List.getElem?_eq_none (by rw [tlV_len]; exact h), List.getElem?_eq_none (by rw [tlV_len]; exact h)]
theorem tlV_snoc (n : Nat) (D : Tl) : tlV (n + 1) D = tlV n D ++ [ovV (D (n : Int))] := by
  unfold tlV
  rw [List.range_succ, List.map_append]
  rfl
/-! ### the known values of an option's successors -/
def knF (B : Tl) (o : Opt) : List Int := o.filterMap fun s => if s = -1 then none else B s
theorem knF_snoc {B : Tl} {o : Opt} {j : Nat} {s : Int} (h : o[j]? = some s) : knF B (o.take (j + 1)) = knF B (o.take j) ++ (if s = -1 then none else B s).toList := by
  unfold knF
  rw [List.take_add_one, h, List.filterMap_append]
  refine congrArg (fun z => List.filterMap (fun s => if s = -1 then none else B s) (o.take j) ++ z) ?_
  show List.filterMap _ [s] = _
  rw [List.filterMap_cons]
  cases (if s = -1 then none else B s) with
  | none => rfl
  | some v => rfl
theorem knF_le (B : Tl) (o : Opt) : (knF B o).length ≤ o.length := List.length_filterMap_le _ _
theorem knF_mem {B : Tl} {o : Opt} {v : Int} : v ∈ knF B o ↔ ∃ s ∈ o, s ≠ -1 ∧ B s = some v := by
  unfold knF
  rw [List.mem_filterMap]
  constructor
  · rintro ⟨s, hs, h⟩
    by_cases e : s = -1
    · rw [if_pos e] at h
      cases h
    · rw [if_neg e] at h
      exact ⟨s, hs, e, h⟩
  · rintro ⟨s, hs, e, h⟩
    exact ⟨s, hs, by rw [if_neg e]; exact h⟩
theorem knF_full {B : Tl} : ∀ {o : Opt}, (knF B o).length = o.length ↔ ∀ s ∈ o, s ≠ -1 ∧ ∃ v, B s = some v
  | [] => ⟨fun _ s h => (nomatch h), fun _ => rfl⟩
  | s :: o => by
    have ih := knF_full (B := B) (o := o)
    have hle := knF_le B o
    have hc : knF B (s :: o) = (if s = -1 then none else B s).toList ++ knF B o := by
      unfold knF
      rw [List.filterMap_cons]
      cases (if s = -1 then none else B s) with
      | none => rfl
      | some v => rfl
    rw [hc, List.length_append, List.length_cons]
    by_cases e : s = -1
    · rw [if_pos e]
      constructor
      · intro h
        have h : 0 + (knF B o).length = o.length + 1 := h
        omega
      · intro h
        exact absurd e (h s List.mem_cons_self).1
    · rw [if_neg e]
      cases hB : B s with
      | none =>
        constructor
        · intro h
          have h : 0 + (knF B o).length = o.length + 1 := h
          omega
        · intro h
          obtain ⟨v, hv⟩ := (h s List.mem_cons_self).2
          rw [hB] at hv
          cases hv
      | some v =>
        constructor
        · intro h x hx
          have h : 1 + (knF B o).length = o.length + 1 := h
          rcases List.mem_cons.mp hx with rfl | hx
          · exact ⟨e, v, hB⟩
          · exact ih.mp (by omega) x hx
        · intro h
          have := ih.mpr fun x hx => h x (List.mem_cons_of_mem _ hx)
          show 1 + (knF B o).length = o.length + 1
          omega
theorem knF_up {B : Tl} {o : Opt} {M m : Int} (hu : UpTo B o M) (hm : m ∈ knF B o) : m ≤ M := by
  obtain ⟨s, hs, _, h⟩ := knF_mem.mp hm
  obtain ⟨_, v, h1, h2⟩ := hu s hs
  rw [h] at h1
  cases h1
  exact h2
def cstF (gn : List (List Int)) (k i : Nat) : Int := (((gn[k]?).getD [])[i]?).getD 0
structure CsG (A : Ar) (gn : List (List Int)) : Prop where
  len : gn.length = A.length
  row : ∀ (k : Nat) os r, A[k]? = some os → gn[k]? = some r → r.length = os.length
  nn : ∀ r ∈ gn, ∀ g ∈ r, 0 ≤ g
theorem CsG.at {A : Ar} {gn : List (List Int)} (h : CsG A gn) {k i : Nat} {os : Pos'} (hk : A[k]? = some os) (hi : i < os.length) : ∃ r, gn[k]? = some r ∧ r[i]? = some (cstF gn k i) ∧ 0 ≤ cstF gn k i := by
  have hkl := (List.getElem?_eq_some_iff.mp hk).1
  obtain ⟨r, hr⟩ : ∃ r, gn[k]? = some r := ⟨_, List.getElem?_eq_getElem (by have := h.len; omega)⟩
  have hrl := h.row k os r hk hr
  obtain ⟨g, hg⟩ : ∃ g, r[i]? = some g := ⟨_, List.getElem?_eq_getElem (by omega)⟩
  have e : cstF gn k i = g := by
    unfold cstF
    rw [hr]
    show (r[i]?).getD 0 = g
    rw [hg]
    rfl
  rw [e]
  exact ⟨r, hr, hg, h.nn r (List.mem_of_getElem? hr) g (List.mem_of_getElem? hg)⟩
def nxD (D : Nat → Tl) (t : Nat) (N : Tl) : Nat → Tl := fun t' => if t' = t then N else D t'
theorem nxD_same {D : Nat → Tl} {t : Nat} {N : Tl} : nxD D t N t = N := if_pos rfl
theorem nxD_ne {D : Nat → Tl} {t t' : Nat} {N : Tl} (h : t' ≠ t) : nxD D t N t' = D t' := if_neg h
structure RndK (A : Ar) (c : Nat → Nat → Int) (hm : List Int) (B : Tl) (k : Nat) (d : Option Int) : Prop where
  hom : (k : Int) ∈ hm → d = B (k : Int)
  ub : ∀ i o M, (k : Int) ∉ hm → OptAt A k i o → UpTo B o M → ∃ w, d = some w ∧ w ≤ c k i + M
  src : ∀ w, d = some w → B (k : Int) = some w ∨ ∃ i o M, OptAt A k i o ∧ UpTo B o M ∧ w = c k i + M
section
variable {P : Program} {w : World} {K : PySem.W.Frag} {mg : Str → Option Value} {base : Heap}
def spDue : Sp := fun vs H Q _ => ∃ (v : V) (hp cl : Addr) (A : Ar) (hm : List Int) (gn : List (List Int)) (ws : List V), vs = [v, .ref hp, .ref cl] ∧ ArIn H A v ∧ ArG A ∧ H hp = some (.tup (hm.map V.int)) ∧ (∀ x ∈ hm, 0 ≤ x ∧ x < (A.length : Int)) ∧ H cl = some (.lst ws) ∧ Each (OptIn H) gn ws ∧ CsG A gn ∧
  ∀ (p : Addr) (D : Nat → Tl) H', Same H H' → H' p = some (.lst (tlV A.length (D A.length))) → (∀ k : Nat, k < A.length → D 0 (k : Int) = if (k : Int) ∈ hm then some 0 else none) → (∀ t, t < A.length → Rnd A (cstF gn) hm (D t) (D (t + 1))) → Q (.ref p) H'
theorem ok_law_due (T : Txt K mg) : FnOk P w K mg base CX0 1 T.a_law_due T.d_law_due P_law_due spDue := by
  refine T.F_law_due.ok sc_law_due (fun vs H Q E h => ?_) (fun cdv A outer s H vs Q E hr h => ?_)
  · obtain ⟨v, hp, cl, A, hm, gn, ws, rfl, _⟩ := h
    rfl
  obtain ⟨v, hp, cl, A0, hm, gn, ws, rfl, hA, hG, eh, hhm, ecl, hws, hC, q⟩ := h
  have h400 := hG.1
  obtain ⟨b0, zs, rfl, e0, hzs⟩ := id hA
  have hzl := hzs.1
  refine ⟨_, (pss_cons (ps_setLc (i := 3) (own := [("options", 4)]) (g := (gName 4)) (tt := tYes) rfl sc_law_due.nd rfl rfl (sw_true rfl rfl rfl (by decide +kernel)) (pi_tup (pv 0)) (blkOk_by (N := N_law_due) (sc := defScope s_law_due) (by decide +kernel)) (fun _ _ _ _ _ => (pg_name (i := 4) sc_law_due.nd rfl (Or.inl rfl))) (fun _ _ _ _ _ => pts_nil) (fun _ _ _ _ _ => pe_non))
    (pss_cons (ps_for  PassesOwn.never rfl (pi_tup (pv 1)) (pg_name (i := 5) sc_law_due.nd rfl (Or.inl rfl))
    (pss_one (ps_asg pe_int (pg_sub (pv 3) (pv 5) set_list))))
    (pss_cons (ps_for  PassesOwn.never rfl (pi_range1 (by rfl) T.z_range (pa_cons (pe_callB call_len_seq (by rfl) T.z_len PySem.boot_len (pa_cons (pv 0) pa_nil)) pa_nil)) (pg_name (i := 6) sc_law_due.nd rfl (Or.inl rfl))
    (pss_cons (ps_set (i := 7) sc_law_due.nd rfl (Or.inr rfl) (pe_callTy call_list_of (by rfl) T.z_list (by decide +kernel) (pa_cons (pv 3) pa_nil)))
    (pss_one (ps_for  PassesOwn.never rfl (pi_range1 (by rfl) T.z_range (pa_cons (pe_callB call_len_seq (by rfl) T.z_len PySem.boot_len (pa_cons (pv 0) pa_nil)) pa_nil)) (pg_name (i := 5) sc_law_due.nd rfl (Or.inl rfl))
    (pss_one (ps_if (pt_cmpR op_notIn_seq (pv 5) (pv 1) (by rfl))
    (pss_cons (ps_set (i := 8) sc_law_due.nd rfl (Or.inl rfl) (pe_lst pa_nil))
    (pss_cons (ps_for  PassesOwn.never rfl (pi_range1 (by rfl) T.z_range (pa_cons (pe_callB call_len_seq (by rfl) T.z_len PySem.boot_len (pa_cons (pe_ix ix_tup (pv 0) (pv 5) (fun _ _ => rfl)) pa_nil)) pa_nil)) (pg_name (i := 9) sc_law_due.nd rfl (Or.inl rfl))
    (pss_cons (ps_setLc (i := 10) (own := [("one", 11)]) (g := (gName 11)) (tt := _) rfl sc_law_due.nd rfl rfl (sw_true rfl rfl rfl (by decide +kernel)) (pi_tup (pe_ix ix_tup (pe_ix ix_tup (pv 0) (pv 5) (fun _ _ => rfl)) (pv 9) (fun _ _ => rfl))) (blkOk_by (N := N_law_due) (sc := defScope s_law_due) (by decide +kernel)) (fun _ _ _ _ _ => (pg_name (i := 11) sc_law_due.nd rfl (Or.inl rfl))) (fun _ _ _ _ _ => (pts_one (PW.pt (pw_and (pt_cmpR op_ne (pv 11) (pe_un un_neg pe_int) (nomark _)) (pw_and1 (pt_cmpR op_notN (pe_ix (ix_listK (K := K) rfl) (pv 7) (pv 11) (fun _ _ => rfl)) pe_non (nomark _))))))) (fun _ _ _ _ _ => (pe_ix (ix_listK (K := K) rfl) (pv 7) (pv 11) (fun _ _ => rfl))))
    (pss_one (ps_if (pt_cmpR op_eq (pe_callB call_len_seq (by rfl) T.z_len PySem.boot_len (pa_cons (pv 10) pa_nil)) (pe_callB call_len_seq (by rfl) T.z_len PySem.boot_len (pa_cons (pe_ix ix_tup (pe_ix ix_tup (pv 0) (pv 5) (fun _ _ => rfl)) (pv 9) (fun _ _ => rfl)) pa_nil)) (nomark _))
    (pss_one (ps_expr (pe_bm PySem.F.plainAttrs_list PySem.F.slot_list_append PySem.F.type_list_append mt_append (pv 8) (pa_cons (pe_op op_add (pe_ix ix_tup (pe_ix ix_list (pv 2) (pv 5) (fun _ _ => rfl)) (pv 9) (fun _ _ => rfl)) (pe_callB (cr_max rfl) (by rfl) T.z_max (by decide +kernel) (pa_cons (pv 10) pa_nil))) pa_nil))))
    pss_nil))))
    (pss_one (ps_if (pt_cmpR op_gt (pe_callB call_len_seq (by rfl) T.z_len PySem.boot_len (pa_cons (pv 8) pa_nil)) pe_int (nomark _))
    (pss_one (ps_asg (pe_callB (cr_min rfl) (by rfl) T.z_min (by decide +kernel) (pa_cons (pv 8) pa_nil)) (pg_sub (pv 3) (pv 5) set_list)))
    pss_nil))))
    pss_nil))))))
    (pss_one (ps_ret (pv 3)))))), ?_⟩
  refine ⟨_, rfl, b0, rfl, ⟨_, sqt e0⟩, fun fl hfl => ?_⟩
  refine lc_tup (K := K) (a := b0) (xs := zs) (fun (j : Nat) (H' : Hp) => Same H H' ∧ H' fl = some (.lst (tlV j fun _ => none))) ?_ ?_ ?_ ?_
  · exact ⟨same_new hfl _, upd_same⟩
  · rintro j H' _ ⟨s1, _⟩
    exact sqt (s1 _ _ e0)
  · rintro j x H1 hx ⟨s1, k1⟩
    have hjl := (List.getElem?_eq_some_iff.mp hx).1
    refine ⟨rfl, yes_if ?_⟩
    refine ⟨_, k1, big' (by rw [tlV_len]; omega), same_put s1 hfl, ?_⟩
    rw [upd_same, tlV_snoc]
    rfl
  rintro H1 ⟨s1, k1⟩
  rw [hzl] at k1
  -- the positions at home
  refine ⟨_, rfl, hp, rfl, ⟨_, sqt (s1 _ _ eh)⟩, ?_⟩
  refine for_tup (K := K) (a := hp) (xs := hm.map V.int) (fun (j : Nat) (σ : L2.St) (H' : Hp) => ∃ y5 : Option V, σ = [some (.ref b0), some (.ref hp), some (.ref cl), some (.ref fl), none, y5, none, none, none, none, none, none] ∧ Same H H' ∧ H' fl = some (.lst (tlV A0.length fun x => if x ∈ hm.take j then some 0 else none))) ?_ ?_ ?_ ?_
  · refine ⟨_, rfl, s1, ?_⟩
    exact k1.trans (congrArg (fun l => some (HO.lst l)) (tlV_ext fun k _ => (if_neg (by rw [List.take_zero]; exact fun h => nomatch h)).symm))
  · rintro j σ H' _ ⟨y5, rfl, s2, _⟩
    exact sqt (s2 _ _ eh)
  · rintro j x σ H2 hx ⟨y5, rfl, s2, k2⟩
    rw [List.getElem?_map] at hx
    obtain ⟨c, hc, rfl⟩ := Option.map_eq_some_iff.mp hx
    obtain ⟨c0, c1⟩ := hhm c (List.mem_of_getElem? hc)
    refine ⟨_, rfl, _, rfl, fl, _, _, _, rfl, rfl, k2, ixN_in c0 (by rw [tlV_len]; omega), ?_⟩
    refine ⟨_, rfl, same_put s2 hfl, ?_⟩
    rw [upd_same, show (V.int 0) = ovV (some 0) from rfl, tlV_set (by omega)]
    congr 2
    refine tlV_ext fun k _ => ?_
    by_cases hk : (k : Int) = c
    · rw [if_pos ((foldK_take hc _).mpr (.inr hk)), show ((c.toNat : Nat) : Int) = c by omega, hk, setT_same]
    · rw [show ((c.toNat : Nat) : Int) = c by omega, setT_ne hk]
      by_cases h : (k : Int) ∈ hm.take j
      · rw [if_pos h, if_pos ((foldK_take hc _).mpr (.inl h))]
      · rw [if_neg h, if_neg (fun e => ((foldK_take hc _).mp e).elim h hk)]
  rintro σ H2 ⟨y5, rfl, s2, k2⟩
  rw [List.length_map, List.take_length] at k2
  -- the rounds
  refine ⟨_, rfl, b0, _, rfl, .inr (sqt (s2 _ _ e0)), _, rfl, by omega, by omega, ?_⟩
  refine for_range (lo := 0) (n := ((zs.length : Nat) : Int).toNat) (fun (t : Nat) (σ : L2.St) (H' : Hp) => ∃ (D : Nat → Tl) (y5 y6 y7 y8 y9 y10 : Option V), σ = [some (.ref b0), some (.ref hp), some (.ref cl), some (.ref fl), none, y5, y6, y7, y8, y9, y10, none] ∧ Same H H' ∧ H' fl = some (.lst (tlV A0.length (D t))) ∧ (∀ k : Nat, k < A0.length → D 0 (k : Int) = if (k : Int) ∈ hm then some 0 else none) ∧ ∀ t', t' < t → Rnd A0 (cstF gn) hm (D t') (D (t' + 1))) ?_ ?_ ?_
  · exact ⟨fun _ x => if x ∈ hm then some 0 else none, _, none, none, none, none, none, rfl, s2, k2, fun k _ => rfl, fun t' h => absurd h (Nat.not_lt_zero t')⟩
  · rintro t σ H3 ht ⟨D, y5, y6, y7, y8, y9, y10, rfl, s3, k3, hD0, hDt⟩
    refine ⟨_, rfl, fl, _, rfl, .inl (sqd k3), fun bl hbl => ?_⟩
    obtain ⟨H4, E4, s4, k4⟩ := newH hbl (.lst (tlV A0.length (D t)))
    rw [E4]
    have nfb : fl ≠ bl := fun z => by rw [← z, k3] at hbl; cases hbl
    have hbl0 : H bl = none := s3.free hbl
    refine ⟨_, rfl, b0, _, rfl, .inr (sqt ((s3.trans s4) _ _ e0)), _, rfl, by omega, by omega, ?_⟩
    refine for_range (lo := 0) (n := ((zs.length : Nat) : Int).toNat) (fun (i : Nat) (σ : L2.St) (H' : Hp) => ∃ (N : Tl) (y5 y8 y9 y10 : Option V), σ = [some (.ref b0), some (.ref hp), some (.ref cl), some (.ref fl), none, y5, some (.int (0 + (t : Int))), some (.ref bl), y8, y9, y10, none] ∧ Same H H' ∧ H' bl = some (.lst (tlV A0.length (D t))) ∧ H' fl = some (.lst (tlV A0.length N)) ∧ (∀ k : Nat, i ≤ k → N (k : Int) = D t (k : Int)) ∧ ∀ k : Nat, k < i → RndK A0 (cstF gn) hm (D t) k (N (k : Int))) ?_ ?_ ?_
    · exact ⟨D t, _, _, _, _, rfl, s3.trans s4, k4, s4 _ _ k3, fun k _ => rfl, fun k h => absurd h (Nat.not_lt_zero k)⟩
    · rintro i σ H5 hi ⟨N, y5, y8, y9, y10, rfl, s5, kb5, kf5, hge, hlt⟩
      generalize hk : (0 : Int) + (i : Int) = kk
      have hki : kk = (i : Int) := by omega
      clear hk
      subst hki
      have hiA : i < A0.length := by omega
      refine ⟨_, rfl, _, rfl, hp, _, rfl, .inr (sqt (s5 _ _ eh)), rfl, flat_ints' hm, _, rfl, ?_⟩
      by_cases hin : (i : Int) ∈ hm
      · refine ifF (by rw [notIn_int, decide_eq_true hin] <;> rfl) ?_
        refine ⟨N, _, _, _, _, rfl, s5, kb5, kf5, fun k hk => hge k (by omega), fun k hk => ?_⟩
        by_cases e : k = i
        · subst e
          rw [hge k (Nat.le_refl k)]
          exact ⟨fun _ => rfl, fun i o M h => absurd hin h, fun w h => .inl h⟩
        · exact hlt k (by omega)
      refine ifT (by rw [notIn_int, decide_eq_false hin] <;> rfl) ?_
      obtain ⟨os, hos⟩ : ∃ os, A0[i]? = some os := ⟨_, List.getElem?_eq_getElem hiA⟩
      obtain ⟨z, hz, b1, ys, rfl, e1, hys⟩ := hzs.at hos
      have hyl := hys.1
      have hosG := hG.2 os (List.mem_of_getElem? hos)
      have h12 := hosG.1
      refine ⟨Nat.zero_le _, fun sl hsl => ?_⟩
      obtain ⟨H6, E6, s6, k6⟩ := newH hsl (.lst [])
      rw [E6]
      have nsb : sl ≠ bl := fun z => by rw [z, kb5] at hsl; cases hsl
      have nsf : sl ≠ fl := fun z => by rw [z, kf5] at hsl; cases hsl
      have s06 := s5.trans s6
      refine ⟨_, rfl, _, rfl, b0, _, _, _, rfl, rfl, sqt (s06 _ _ e0), atI_nat hz, b1, _, rfl, .inr (sqt (s06 _ _ e1)), _, rfl, by omega, by omega, ?_⟩
      refine for_range (lo := 0) (n := ((ys.length : Nat) : Int).toNat) (fun (j : Nat) (σ : L2.St) (H' : Hp) => ∃ (ss : List Int) (y9 y10 : Option V), σ = [some (.ref b0), some (.ref hp), some (.ref cl), some (.ref fl), none, some (.int (i : Int)), some (.int (0 + (t : Int))), some (.ref bl), some (.ref sl), y9, y10, none] ∧ Same H5 H' ∧ H' sl = some (.lst (ss.map V.int)) ∧ ss.length ≤ j ∧ (∀ x ∈ ss, ∃ j' o M, OptAt A0 i j' o ∧ UpTo (D t) o M ∧ x = cstF gn i j' + M) ∧ ∀ j', j' < j → ∀ o M, OptAt A0 i j' o → UpTo (D t) o M → ∃ x ∈ ss, x ≤ cstF gn i j' + M) ?_ ?_ ?_
      · exact ⟨[], _, _, rfl, s6, k6, Nat.le_refl 0, fun x h => (nomatch h), fun j' h => absurd h (Nat.not_lt_zero j')⟩
      · rintro j σ H7 hj ⟨ss, y9, y10, rfl, s7, k7, hsl7, hsrc, hub⟩
        generalize hk : (0 : Int) + (j : Int) = kk
        have hkj : kk = (j : Int) := by omega
        clear hk
        subst hkj
        have s07 := s5.trans s7
        obtain ⟨o, ho⟩ : ∃ o, os[j]? = some o := ⟨_, List.getElem?_eq_getElem (by omega)⟩
        obtain ⟨u, hu, bo, rfl, eo⟩ := hys.at ho
        have hoA : OptAt A0 i j o := ⟨os, hos, ho⟩
        obtain ⟨hoG, _⟩ := hoA.good hG
        have hol := hoG.len
        have hone := List.length_pos_iff.mpr hoG.ne
        have kb7 := s7 _ _ kb5
        refine ⟨_, rfl, _, rfl, b0, _, _, _, rfl, rfl, sqt (s07 _ _ e0), atI_nat hz, _, rfl, b1, _, _, _, rfl, rfl, sqt (s07 _ _ e1), atI_nat hu, bo, rfl, ⟨_, sqt (s07 _ _ eo)⟩, fun F hF => ?_⟩
        refine lc_tup (K := K) (a := bo) (xs := o.map V.int) (fun (m : Nat) (H' : Hp) => Same H7 H' ∧ H' F = some (.lst ((knF (D t) (o.take m)).map V.int))) ?_ ?_ ?_ ?_
        · exact ⟨same_new hF _, upd_same⟩
        · rintro m H' _ ⟨s8, _⟩
          exact sqt (s8 _ _ (s07 _ _ eo))
        · rintro m x H8 hx ⟨s8, k8⟩
          have hml := (List.getElem?_eq_some_iff.mp hx).1
          rw [List.length_map] at hml
          rw [List.getElem?_map] at hx
          obtain ⟨e, he, rfl⟩ := Option.map_eq_some_iff.mp hx
          have hem := hoG.mem e (List.mem_of_getElem? he)
          have hkn := knF_snoc (B := D t) he
          have hkl := knF_le (D t) (o.take m)
          have htl : (o.take m).length ≤ m := by rw [List.length_take]; exact Nat.min_le_left _ _
          have kb8 := s8 _ _ kb7
          refine ⟨rfl, ?_⟩
          refine ⟨_, rfl, _, rfl, rfl, _, rfl, ?_⟩
          by_cases h1 : e = -1
          · rw [if_pos h1] at hkn
            refine ifF (by rw [decide_eq_true (congrArg V.int h1)] <;> rfl) (iteF ⟨s8, ?_⟩)
            rw [k8, hkn]
            show _ = some (HO.lst ((knF (D t) (o.take m) ++ []).map V.int))
            rw [List.append_nil]
          rw [if_neg h1] at hkn
          refine ifT (by rw [decide_eq_false (fun h => h1 (V.int.inj h))] <;> rfl) ?_
          have hat := tlV_get (D := D t) (show 0 ≤ e by omega) hem.2
          refine ⟨_, rfl, _, rfl, bl, _, _, _, rfl, rfl, sqd kb8, hat, rfl, _, rfl, ?_⟩
          cases hB : D t e with
          | none =>
            rw [hB] at hkn
            refine ifF rfl ⟨s8, ?_⟩
            rw [k8, hkn]
            show _ = some (HO.lst ((knF (D t) (o.take m) ++ []).map V.int))
            rw [List.append_nil]
          | some v =>
            rw [hB] at hat hkn
            refine ifT rfl ?_
            refine ⟨_, rfl, _, rfl, bl, _, _, _, rfl, rfl, sqd kb8, hat, _, k8, big' (by rw [List.length_map]; omega), same_put s8 hF, ?_⟩
            rw [upd_same, hkn, List.map_append]
            rfl
        rintro H8 ⟨s8, k8⟩
        rw [List.length_map, List.take_length] at k8
        have s08 := s07.trans s8
        have hkl := knF_le (D t) o
        refine ⟨_, rfl, F, _, rfl, .inl (sqd k8), _, rfl, _, rfl, b0, _, _, _, rfl, rfl, sqt (s08 _ _ e0), atI_nat hz, _, rfl, b1, _, _, _, rfl, rfl, sqt (s08 _ _ e1), atI_nat hu, bo, _, rfl, .inr (sqt (s08 _ _ eo)), rfl, _, rfl, ?_⟩
        rw [List.length_map, List.length_map]
        by_cases hful : (knF (D t) o).length = o.length
        · refine ifT (decide_eq_true (by rw [hful])) ?_
          have hall := knF_full.mp hful
          have k78 := s8 _ _ k7
          obtain ⟨r, hr, hrg, _⟩ := hC.at hos (show j < os.length by omega)
          obtain ⟨u2, hu2, br, rfl, ebr⟩ := hws.at hr
          refine ⟨_, rfl, .inl ⟨rfl, _, sqd k78⟩, ?_⟩
          refine ⟨_, rfl, _, rfl, cl, _, _, _, rfl, rfl, sqd (s08 _ _ ecl), atI_nat hu2, _, rfl, br, _, _, _, rfl, rfl, sqt (s08 _ _ ebr), atI_nat (show (r.map V.int)[j]? = some (V.int (cstF gn i j)) by rw [List.getElem?_map, hrg]; rfl), _, rfl, F, _, rfl, sqd k8, by omega, fun mx h1 h2 => ⟨_, _, rfl, rfl, ?_⟩⟩
          have hupm : UpTo (D t) o mx := fun s hs => by
            obtain ⟨a, v, b⟩ := hall s hs
            exact ⟨a, v, b, h2 v (knF_mem.mpr ⟨s, hs, a, b⟩)⟩
          refine ⟨sl, _, _, rfl, rfl, k78, big' (by rw [List.length_map]; omega), ?_⟩
          refine ⟨ss ++ [cstF gn i j + mx], _, _, rfl, same_put (s7.trans s8) hsl, ?_, by rw [List.length_append]; show ss.length + 1 ≤ j + 1; omega, fun x hx => ?_, fun j' hj' o' M ho' hM => ?_⟩
          · rw [upd_same, List.map_append]
            rfl
          · rcases List.mem_append.mp hx with h | h
            · exact hsrc x h
            · exact ⟨j, o, mx, hoA, hupm, List.mem_singleton.mp h⟩
          · by_cases e : j' = j
            · subst e
              cases ho'.uniq hoA
              have := knF_up hM h1
              exact ⟨_, List.mem_append_right _ List.mem_cons_self, by omega⟩
            · obtain ⟨x, hx, hle⟩ := hub j' (by omega) o' M ho' hM
              exact ⟨x, List.mem_append_left _ hx, hle⟩
        · refine ifF (decide_eq_false (fun h => hful (by have := V.int.inj h; omega))) ?_
          refine ⟨ss, _, _, rfl, s7.trans s8, s8 _ _ k7, by omega, hsrc, fun j' hj' o' M ho' hM => ?_⟩
          by_cases e : j' = j
          · subst e
            cases ho'.uniq hoA
            exact absurd (knF_full.mpr fun s hs => by
              obtain ⟨a, v, b, _⟩ := hM s hs
              exact ⟨a, v, b⟩) hful
          · exact hub j' (by omega) o' M ho' hM
      · rintro σ H7 ⟨ss, y9, y10, rfl, s7, k7, hsl7, hsrc, hub⟩
        have kf7 := s7 _ _ kf5
        have kb7 := s7 _ _ kb5
        have s07 := s5.trans s7
        refine ⟨_, rfl, sl, _, rfl, .inl (sqd k7), _, _, rfl, rfl, _, rfl, ?_⟩
        rw [List.length_map]
        by_cases hpos : ((ss.length : Nat) : Int) > 0
        · refine ifT (decide_eq_true hpos) ?_
          refine ⟨_, rfl, sl, _, rfl, sqd k7, by omega, fun mn h1 h2 => ?_⟩
          refine ⟨_, rfl, _, rfl, fl, _, _, _, rfl, rfl, kf7, ixN_in (by omega) (by rw [tlV_len]; omega), ?_⟩
          refine ⟨setT N (i : Int) (some mn), _, _, _, _, rfl, same_put s07 hfl, by rw [upd_ne nfb.symm]; exact kb7, ?_, fun k hk => ?_, fun k hk => ?_⟩
          · rw [upd_same, Int.toNat_natCast, show V.int mn = ovV (some mn) from rfl, tlV_set hiA]
          · rw [setT_ne (by omega)]
            exact hge k (by omega)
          · by_cases e : k = i
            · subst e
              rw [setT_same]
              refine ⟨fun h => absurd h hin, fun j' o M _ ho hM => ?_, fun w h => ?_⟩
              · obtain ⟨os', h3, h4⟩ := id ho
                rw [hos] at h3
                cases h3
                obtain ⟨x, hx, hle⟩ := hub j' (by have := (List.getElem?_eq_some_iff.mp h4).1; omega) o M ho hM
                have := h2 x hx
                exact ⟨mn, rfl, by omega⟩
              · cases h
                exact .inr (hsrc _ h1)
            · rw [setT_ne (by omega)]
              exact hlt k (by omega)
        · refine ifF (decide_eq_false hpos) ?_
          refine ⟨N, _, _, _, _, rfl, s07, kb7, kf7, fun k hk => hge k (by omega), fun k hk => ?_⟩
          by_cases e : k = i
          · subst e
            rw [hge k (Nat.le_refl k)]
            refine ⟨fun _ => rfl, fun j' o M _ ho hM => ?_, fun w h => .inl h⟩
            obtain ⟨os', h3, h4⟩ := id ho
            rw [hos] at h3
            cases h3
            obtain ⟨x, hx, _⟩ := hub j' (by have := (List.getElem?_eq_some_iff.mp h4).1; omega) o M ho hM
            have := List.length_pos_of_mem hx
            omega
          · exact hlt k (by omega)
    · rintro σ H5 ⟨N, y5, y8, y9, y10, rfl, s5, kb5, kf5, hge, hlt⟩
      have hn : ((zs.length : Nat) : Int).toNat = A0.length := by omega
      rw [hn] at hge hlt
      refine ⟨nxD D (t + 1) N, _, _, _, _, _, _, rfl, s5, by rw [nxD_same]; exact kf5, fun k hk => by rw [nxD_ne (by omega)]; exact hD0 k hk, fun t' ht' => ?_⟩
      by_cases e : t' = t
      · subst e
        rw [nxD_ne (by omega), nxD_same]
        refine ⟨fun k hk => ?_, fun k i o M hk ho hu => ?_, fun k w hk h => (hlt k hk).src w h⟩
        · have := hhm _ hk
          exact (hlt k (by omega)).hom hk
        · exact (hlt k (ho.good hG).2).ub i o M hk ho hu
      · rw [nxD_ne (by omega), nxD_ne (by omega)]
        exact hDt t' (by omega)
  · rintro σ H3 ⟨D, y5, y6, y7, y8, y9, y10, rfl, s3, k3, hD0, hDt⟩
    have hn : ((zs.length : Nat) : Int).toNat = A0.length := by omega
    rw [hn] at k3 hDt
    exact ⟨_, rfl, q fl D H3 s3 k3 hD0 hDt⟩
end
end NL

set_option maxHeartbeats 4000000
namespace NL
open PySem PySem.Spec PyProof.Rows L2
section
variable {P : Program} {w : World} {K : PySem.W.Frag} {mg : Str → Option Value} {base : Heap}
def spIsInt0 : Sp := fun vs H Q _ => ∃ n : Int, vs = [.int n] ∧ Q (.bl true) H
theorem ok_law_is_integer (T : Txt K mg) : FnOk P w K mg base CX0 1 T.a_law_is_integer T.d_law_is_integer P_law_is_integer spIsInt0 := by
  refine T.F_law_is_integer.ok sc_law_is_integer (fun vs H Q E h => ?_) (fun cdv A outer s H vs Q E hr h => ?_)
  · obtain ⟨n, rfl, _⟩ := h
    rfl
  obtain ⟨n, rfl, q⟩ := h
  refine ⟨_, (pss_one (ps_ret (pe_and (pe_callB (call_isi) (by rfl) T.z_isinstance (by decide +kernel) (pa_cons (pv 0) (pa_cons (pe_bltn (v := .ty "int") (u := .type "int") (by rfl) T.z_int (by decide +kernel) rfl) pa_nil))) (pe_one (pe_not (pe_callB (call_isi) (by rfl) T.z_isinstance (by decide +kernel) (pa_cons (pv 0) (pa_cons (pe_bltn (v := .ty "bool") (u := .type "bool") (by rfl) T.z_bool (by decide +kernel) rfl) pa_nil)))))))), ?_⟩
  refine ⟨_, rfl, _, _, .type "int", .type "int", true, rfl, .ty "int", .base (.int _), kit_ty (by decide +kernel), true, rfl, ?_⟩
  exact iteT ⟨_, rfl, _, _, .type "int", .type "bool", false, rfl, .ty "bool", .base (.int _), kit_ty (by decide +kernel), false, rfl, q⟩
def spTold0 : Sp := fun vs H Q _ => ∃ (a d : Addr) (n : Nat) (T : Tl), vs = [.ref a, .ref d] ∧ H a = some (.tup (tlV n T)) ∧ H d = some (.lst (tlV n T)) ∧ n ≤ 1000 ∧ Q (.bl true) H
theorem ok_law_told (T : Txt K mg) : FnOk P w K mg base CX0 2 T.a_law_told T.d_law_told P_law_told spTold0 := by
  have G_law_is_integer := ok_law_is_integer (P := P) (w := w) (base := base) T
  refine T.F_law_told.ok sc_law_told (fun vs H Q E h => ?_) (fun cdv A outer s H vs Q E hr h => ?_)
  · obtain ⟨a, d, n, D, rfl, _⟩ := h
    rfl
  obtain ⟨a, d, n, D, rfl, ea, ed, hn, q⟩ := h
  refine ⟨_, (pss_cons (ps_if (PW.pt (pw_or (pt_not (pt_val (pe_callB (call_isi) (by rfl) T.z_isinstance (by decide +kernel) (pa_cons (pv 0) (pa_cons (pe_bltn (v := .ty "tuple") (u := .type "tuple") (by rfl) T.z_tuple (by decide +kernel) rfl) pa_nil))))) (pw_or1 (pt_cmpR op_ne (pe_callB call_len_seq (by rfl) T.z_len PySem.boot_len (pa_cons (pv 0) pa_nil)) (pe_callB call_len_seq (by rfl) T.z_len PySem.boot_len (pa_cons (pv 1) pa_nil)) (nomark _)))))
    (pss_one (ps_ret pe_bl))
    pss_nil)
    (pss_cons (ps_for  PassesOwn.never rfl (pi_range1 (by rfl) T.z_range (pa_cons (pe_callB call_len_seq (by rfl) T.z_len PySem.boot_len (pa_cons (pv 1) pa_nil)) pa_nil)) (pg_name (i := 2) sc_law_told.nd rfl (Or.inl rfl))
    (pss_cons (ps_if (PW.pt (pw_and (pt_cmpR op_isN (pe_ix ix_list (pv 1) (pv 2) (fun _ _ => rfl)) pe_non (nomark _)) (pw_and1 (pt_cmpR op_notN (pe_ix ix_tup (pv 0) (pv 2) (fun _ _ => rfl)) pe_non (nomark _)))))
    (pss_one (ps_ret pe_bl))
    pss_nil)
    (pss_one (ps_if (PW.pt (pw_and (pt_cmpR op_notN (pe_ix ix_list (pv 1) (pv 2) (fun _ _ => rfl)) pe_non (nomark _)) (pw_and1 (PW.pt (pw_or (pt_not (pt_val (pe_call G_law_is_integer (hr.mono (by omega)) (by rfl) T.m_law_is_integer T.F_law_is_integer.kp T.b_law_is_integer .nil pass0 (pa_cons (pe_ix ix_tup (pv 0) (pv 2) (fun _ _ => rfl)) pa_nil)))) (pw_or1 (pt_cmpR op_ne (pe_ix ix_tup (pv 0) (pv 2) (fun _ _ => rfl)) (pe_ix ix_list (pv 1) (pv 2) (fun _ _ => rfl)) (nomark _))))))))
    (pss_one (ps_ret pe_bl))
    pss_nil))))
    (pss_one (ps_ret pe_bl)))), ?_⟩
  refine ⟨_, rfl, _, _, .type "tuple", .type "tuple", true, rfl, .ty "tuple", .base (.tup ea), kit_ty (by decide +kernel), true, rfl, ?_⟩
  refine iteF ?_
  refine ⟨_, rfl, a, _, rfl, .inr (sqt ea), _, rfl, d, _, rfl, .inl (sqd ed), rfl, _, rfl, ?_⟩
  refine ifF (by rw [decide_eq_true rfl] <;> rfl) ?_
  refine ⟨_, rfl, d, _, rfl, .inl (sqd ed), _, rfl, by rw [tlV_len]; omega, by rw [tlV_len]; omega, ?_⟩
  refine for_range (lo := 0) (n := (((tlV n D).length : Nat) : Int).toNat) (fun (j : Nat) (σ : L2.St) (H' : Hp) => ∃ y : Option V, σ = [some (.ref a), some (.ref d), y] ∧ H' = H) ?_ ?_ ?_
  · exact ⟨none, rfl, rfl⟩
  · rintro j σ H' hj ⟨y, rfl, hHH⟩
    obtain rfl : H = H' := hHH.symm
    rw [tlV_len] at hj
    generalize hk : (0 : Int) + (j : Int) = kk
    have hkj : kk = (j : Int) := by omega
    clear hk
    subst hkj
    have hat := atI_nat (tlV_at (D := D) (show j < n by omega))
    refine ⟨_, rfl, _, rfl, d, _, _, _, rfl, rfl, sqd ed, hat, rfl, _, rfl, ?_⟩
    cases hD : D (j : Int) with
    | none =>
      rw [hD] at hat
      refine ifT rfl ?_
      refine ⟨_, rfl, _, rfl, a, _, _, _, rfl, rfl, sqt ea, hat, rfl, _, rfl, ifF rfl ?_⟩
      refine ⟨_, rfl, _, rfl, d, _, _, _, rfl, rfl, sqd ed, hat, rfl, _, rfl, ifF rfl (iteF ⟨_, rfl, rfl⟩)⟩
    | some v =>
      rw [hD] at hat
      refine ifF rfl (iteF ?_)
      refine ⟨_, rfl, _, rfl, d, _, _, _, rfl, rfl, sqd ed, hat, rfl, _, rfl, ifT rfl ?_⟩
      refine ⟨_, rfl, _, rfl, a, _, _, _, rfl, rfl, sqt ea, hat, v, rfl, true, rfl, iteF ?_⟩
      refine ⟨_, rfl, _, rfl, a, _, _, _, rfl, rfl, sqt ea, hat, _, rfl, _, rfl, d, _, _, _, rfl, rfl, sqd ed, hat, rfl, _, rfl, ?_⟩
      exact ifF (by rw [decide_eq_true rfl] <;> rfl) ⟨_, rfl, rfl⟩
  · rintro σ H' ⟨y, rfl, hHH⟩
    obtain rfl : H = H' := hHH.symm
    exact q
theorem rk_list {A : Ar} {R : Int → Option Nat} {rs : List V} (h : RkL A R rs) : rs = tlV A.length fun x => (R x).map fun r : Nat => (r : Int) := by
  refine List.ext_getElem? fun k => ?_
  rcases Nat.lt_or_ge k A.length with hk | hk
  · rw [h.2 k hk, tlV_at hk]
    cases R (k : Int) with
    | none => rfl
    | some r => rfl
  · rw [List.getElem?_eq_none (by have := h.1; omega), List.getElem?_eq_none (by rw [tlV_len]; exact hk)]
end
end NL

set_option maxHeartbeats 4000000
namespace NL
open PySem PySem.Spec PyProof.Rows L2
def rGetL (K : PySem.W.Frag) : V → V → Hp → VK → Prop := fun x y H Q => ∃ (p : Addr) (xs : List V) (j : Nat) (v : V), x = .ref p ∧ y = .int (j : Int) ∧ SqL K H p xs ∧ xs[j]? = some v ∧ Q v H
theorem pgetL {X : Cx} : PGet X (rGetL X.K) := by
  intro pins s σ H x y v u Q I rx ry h
  obtain ⟨p, xs, j, z, rfl, rfl, hq, he, q⟩ := h
  cases rx
  obtain ⟨t, rfl⟩ := ry
  obtain ⟨its, r, pl, hz⟩ := I.list hq
  obtain ⟨w, ew, rw'⟩ := r.get he
  have hl := r.length
  have hj := (List.getElem?_eq_some_iff.mp he).1
  have hn := line63
  exact wpAny_getItem_list (Q := fun r s' => EP X pins σ Q r s') pl.isList (by omega) (by omega) (by rw [Int.toNat_natCast]; simpa using ew) ⟨z, H, I, rw', q⟩
end NL

set_option maxHeartbeats 4000000
namespace NL
open PySem PySem.Spec PyProof.Rows L2
theorem forK_enumT {K : PySem.W.Frag} {a : Addr} {xs : List V} {g : TG} {tb : TS} {D : Ends} {σ : L2.St} {H : Hp} (Pv : Nat → L2.St → Hp → Prop) (h0 : Pv 0 σ H) (hq : ∀ i σ H, Pv i σ H → SqT K H a xs)
    (hs : ∀ (i : Nat) (x : V) (t : Addr) σ H, xs[i]? = some x → Pv i σ H → H t = none → g (.ref t) σ (upd H t (.tup [.int (i : Nat), x])) fun σ2 H2 => tb { D with nx := Pv (i + 1), ct := Pv (i + 1), bk := D.nx } σ2 H2) (hd : ∀ σ H, Pv xs.length σ H → D.nx σ H) :
    ∃ W : Nat → Nat → L2.St → Hp → Prop, (∃ m, W 0 m σ H) ∧ ∀ i m σ H, W i m σ H →
      ((EtT K a).stop i H ∧ D.nx σ H) ∨ ((EtT K a).go i H ∧ ∃ N : L2.St → Hp → Prop, (∀ σ' H', N σ' H' → ∃ m', m' < m ∧ W (i + 1) m' σ' H') ∧ ∀ x H', (EtT K a).yld i H x H' → g x σ H' fun σ2 H2 => tb { D with nx := N, ct := N, bk := D.nx } σ2 H2) := by
  refine ⟨fun i m σ H => m + i = xs.length ∧ Pv i σ H, ⟨xs.length, rfl, h0⟩, ?_⟩
  rintro i m σ H ⟨hi, p⟩
  have q := hq i σ H p
  by_cases lt : i < xs.length
  · have ex : xs[i]? = some xs[i] := List.getElem?_eq_getElem lt
    refine .inr ⟨⟨xs, _, q, ex⟩, Pv (i + 1), fun σ' H' p' => ⟨m - 1, by omega, by omega, p'⟩, fun v H' y => ?_⟩
    obtain ⟨t, x1, rfl, ht, rfl, f1⟩ := y
    exact hs i x1 t σ H (f1 xs q) p ht
  · have e : i = xs.length := by omega
    subst e
    exact .inl ⟨⟨xs, q, Nat.le_refl _⟩, hd σ H p⟩
/-! ### which options have a position as a successor -/
theorem nd_inj {α : Type} {l : List α} (h : l.Nodup) {i j : Nat} {x : α} (hi : l[i]? = some x) (hj : l[j]? = some x) : i = j := by
  obtain ⟨p1, q1⟩ := List.getElem?_eq_some_iff.mp hi
  obtain ⟨p2, q2⟩ := List.getElem?_eq_some_iff.mp hj
  rcases Nat.lt_trichotomy i j with z | z | z
  · exact absurd (q1.trans q2.symm) (List.pairwise_iff_getElem.mp h i j p1 p2 z)
  · exact z
  · exact absurd (q2.trans q1.symm) (List.pairwise_iff_getElem.mp h j i p2 p1 z)
abbrev Pr := Nat × Nat
def PrIn (H : Hp) (p : Pr) (v : V) : Prop := ∃ t, v = .ref t ∧ H t = some (.tup [.int (p.1 : Nat), .int (p.2 : Nat)])
theorem PrIn.tp {H H' : Hp} {p : Pr} {v : V} (t : Tp H H') (h : PrIn H p v) : PrIn H' p v := by
  obtain ⟨a, h1, h2⟩ := h
  exact ⟨a, h1, t _ _ h2⟩
/-- the lists of pairs, each new behind H0 -/
def LdIn (H0 H : Hp) (L : Addr) (n : Nat) (Lf : Nat → List Pr) : Prop := ∃ as : List Addr, as.length = n ∧ as.Nodup ∧ H L = some (.lst (as.map V.ref)) ∧ ∀ (a : Nat) l, as[a]? = some l → l ≠ L ∧ H0 l = none ∧ ∃ ts, H l = some (.lst ts) ∧ Each (PrIn H) (Lf a) ts
theorem LdIn.same {H0 H H' : Hp} {L : Addr} {n : Nat} {Lf : Nat → List Pr} (h : LdIn H0 H L n Lf) (s : Same H H') : LdIn H0 H' L n Lf := by
  obtain ⟨as, h1, h2, h3, h4⟩ := h
  refine ⟨as, h1, h2, s _ _ h3, fun a l ha => ?_⟩
  obtain ⟨h5, h6, ts, h7, h8⟩ := h4 a l ha
  exact ⟨h5, h6, ts, s _ _ h7, h8.mono fun p x => PrIn.tp (Tp.same s)⟩
theorem LdIn.ext {H0 H : Hp} {L : Addr} {n : Nat} {Lf Lg : Nat → List Pr} (h : LdIn H0 H L n Lf) (e : ∀ a, a < n → Lf a = Lg a) : LdIn H0 H L n Lg := by
  obtain ⟨as, h1, h2, h3, h4⟩ := h
  refine ⟨as, h1, h2, h3, fun a l ha => ?_⟩
  rw [← e a (by have := (List.getElem?_eq_some_iff.mp ha).1; omega)]
  exact h4 a l ha
def addL (Lf : Nat → List Pr) (a : Nat) (p : Pr) : Nat → List Pr := fun x => if x = a then Lf a ++ [p] else Lf x
structure LfG (Lf : Nat → List Pr) (R : Nat → Nat → Nat → Prop) : Prop where
  nd : ∀ a, (Lf a).Nodup
  mem : ∀ a k i, (k, i) ∈ Lf a ↔ R k i a
theorem LfG.add {Lf : Nat → List Pr} {R R' : Nat → Nat → Nat → Prop} {k0 i0 a0 : Nat} (h : LfG Lf R) (hn : ¬ R k0 i0 a0) (hR : ∀ k i a, R' k i a ↔ R k i a ∨ (k = k0 ∧ i = i0 ∧ a = a0)) : LfG (addL Lf a0 (k0, i0)) R' := by
  constructor
  · intro a
    unfold addL
    split
    · refine List.nodup_append.mpr ⟨h.nd a0, by simp, fun x hx y hy e => ?_⟩
      rw [List.mem_singleton.mp hy] at e
      rw [e] at hx
      exact hn ((h.mem a0 k0 i0).mp hx)
    · exact h.nd a
  · intro a k i
    unfold addL
    rw [hR]
    split
    · rename_i ha
      subst ha
      rw [List.mem_append, List.mem_singleton, h.mem, Prod.mk.injEq]
      exact ⟨fun h => h.elim .inl fun ⟨a, b⟩ => .inr ⟨a, b, rfl⟩, fun h => h.elim .inl fun ⟨a, b, _⟩ => .inr ⟨a, b⟩⟩
    · rename_i ha
      rw [h.mem]
      exact ⟨.inl, fun h => h.elim id fun ⟨_, _, e⟩ => absurd e ha⟩
theorem LfG.imp {Lf : Nat → List Pr} {R R' : Nat → Nat → Nat → Prop} (h : LfG Lf R) (hR : ∀ k i a, R k i a ↔ R' k i a) : LfG Lf R' := ⟨h.nd, fun a k i => (h.mem a k i).trans (hR k i a)⟩
def Has (A : Ar) (k i a : Nat) : Prop := ∃ o, OptAt A k i o ∧ (a : Int) ∈ o
section
variable {P : Program} {w : World} {K : PySem.W.Frag} {mg : Str → Option Value} {base : Heap}
def spOpts : Sp := fun vs H Q _ => ∃ (v : V) (A : Ar), vs = [v] ∧ ArIn H A v ∧ ArG A ∧ ∀ (L : Addr) (Lf : Nat → List Pr) H', Same H H' → H L = none → LdIn H H' L A.length Lf → LfG Lf (Has A) → Q (.ref L) H'
theorem ok_options_to (T : Txt K mg) : FnOk P w K mg base CX0 1 T.a_options_to T.d_options_to P_options_to spOpts := by
  refine T.F_options_to.ok sc_options_to (fun vs H Q E h => ?_) (fun cdv A outer s H vs Q E hr h => ?_)
  · obtain ⟨v, A, rfl, _⟩ := h
    rfl
  obtain ⟨v, A0, rfl, hA, hG, q⟩ := h
  have h400 := hG.1
  obtain ⟨b0, zs, rfl, e0, hzs⟩ := id hA
  have hzl := hzs.1
  refine ⟨_, (pss_cons (ps_setLc (i := 1) (own := [("_", 2)]) (g := (gName 2)) (tt := tYes) rfl sc_options_to.nd rfl rfl (sw_true rfl rfl rfl (by decide +kernel)) (pi_tup (pv 0)) (blkOk_by (N := N_options_to) (sc := defScope s_options_to) (by decide +kernel)) (fun _ _ _ _ _ => (pg_name (i := 2) sc_options_to.nd rfl (Or.inl rfl))) (fun _ _ _ _ _ => pts_nil) (fun _ _ _ _ _ => (pe_lst pa_nil)))
    (pss_cons (ps_for  PassesOwn.never rfl (pi_enumT (by rfl) T.z_enumerate (pa_cons (pv 0) pa_nil)) (pg_tup rfl (pgs_cons (pg_name (i := 3) sc_options_to.nd rfl (Or.inl rfl)) (pgs_cons (pg_name (i := 4) sc_options_to.nd rfl (Or.inl rfl)) pgs_nil)))
    (pss_one (ps_for  PassesOwn.never rfl (pi_enumT (by rfl) T.z_enumerate (pa_cons (pv 4) pa_nil)) (pg_tup rfl (pgs_cons (pg_name (i := 5) sc_options_to.nd rfl (Or.inl rfl)) (pgs_cons (pg_name (i := 6) sc_options_to.nd rfl (Or.inl rfl)) pgs_nil)))
    (pss_one (ps_for  PassesOwn.never rfl (pi_tup (pv 6)) (pg_name (i := 7) sc_options_to.nd rfl (Or.inl rfl))
    (pss_one (ps_if (pt_cmpR op_ne (pv 7) (pe_un un_neg pe_int) (nomark _))
    (pss_one (ps_expr (pe_bm PySem.F.plainAttrs_list PySem.F.slot_list_append PySem.F.type_list_append mt_append (pe_ix ix_list (pv 1) (pv 7) (fun _ _ => rfl)) (pa_cons (pe_tup (pa_cons (pv 3) (pa_cons (pv 5) pa_nil))) pa_nil))))
    pss_nil)))))))
    (pss_one (ps_ret (pv 1))))), ?_⟩
  refine ⟨_, rfl, b0, rfl, ⟨_, sqt e0⟩, fun L hL => ?_⟩
  have hL0 : H L = none := hL
  refine lc_tup (K := K) (a := b0) (xs := zs) (fun (j : Nat) (H' : Hp) => Same H H' ∧ LdIn H H' L j fun _ => []) ?_ ?_ ?_ ?_
  · exact ⟨same_new hL _, [], rfl, List.nodup_nil, upd_same, fun a l h => by simp at h⟩
  · rintro j H' _ ⟨s1, _⟩
    exact sqt (s1 _ _ e0)
  · rintro j x H1 hx ⟨s1, as, a1, a2, a3, a4⟩
    have hjl := (List.getElem?_eq_some_iff.mp hx).1
    refine ⟨rfl, yes_if ?_⟩
    refine ⟨Nat.zero_le _, fun l hl => ?_⟩
    obtain ⟨H2, E2, s2, k2⟩ := newH hl (.lst [])
    rw [E2]
    have nlL : l ≠ L := fun e => by rw [e, a3] at hl; cases hl
    refine ⟨_, s2 _ _ a3, big' (by rw [List.length_map]; omega), same_put (s1.trans s2) hL0, as ++ [l], by rw [List.length_append, a1]; rfl, ?_, by rw [upd_same, List.map_append]; rfl, fun a l' ha => ?_⟩
    · refine List.nodup_append.mpr ⟨a2, by simp, fun x hx y hy e => ?_⟩
      rw [List.mem_singleton.mp hy] at e
      subst e
      obtain ⟨i, hi⟩ := List.getElem?_of_mem hx
      obtain ⟨_, _, ts, h7, _⟩ := a4 i x hi
      rw [hl] at h7
      cases h7
    · by_cases hlt : a < as.length
      · rw [List.getElem?_append_left hlt] at ha
        obtain ⟨h5, h6, ts, h7, h8⟩ := a4 a l' ha
        have : ts = [] := List.length_eq_zero_iff.mp h8.1
        subst this
        exact ⟨h5, h6, [], by rw [upd_ne h5]; exact s2 _ _ h7, .nil⟩
      · have hal := (List.getElem?_eq_some_iff.mp ha).1
        rw [List.length_append] at hal
        have hal : a < as.length + 1 := hal
        have e : a = as.length := by omega
        subst e
        rw [List.getElem?_append_right (Nat.le_refl _), Nat.sub_self] at ha
        have e : l = l' := Option.some.inj ha
        subst e
        exact ⟨nlL, s1.free hl, [], by rw [upd_ne nlL]; exact k2, .nil⟩
  rintro H1 ⟨s1, hld1⟩
  rw [hzl] at hld1
  refine ⟨_, rfl, b0, _, rfl, sqt (s1 _ _ e0), ?_⟩
  refine forK_enumT (K := K) (a := b0) (xs := zs) (fun (j : Nat) (σ : L2.St) (H' : Hp) => ∃ (Lf : Nat → List Pr) (y3 y4 y5 y6 y7 : Option V), σ = [some (.ref b0), some (.ref L), none, y3, y4, y5, y6, y7] ∧ Same H H' ∧ LdIn H H' L A0.length Lf ∧ LfG Lf (fun k i a => k < j ∧ Has A0 k i a) ∧ ∀ a, (Lf a).length ≤ 12 * j) ?_ ?_ ?_ ?_
  · exact ⟨fun _ => [], none, none, none, none, none, rfl, s1, hld1, ⟨fun _ => List.nodup_nil, fun a k i => ⟨fun h => (nomatch h), fun h => absurd h.1 (Nat.not_lt_zero _)⟩⟩, fun _ => Nat.zero_le _⟩
  · rintro j σ H' ⟨Lf, y3, y4, y5, y6, y7, rfl, s2, _⟩
    exact sqt (s2 _ _ e0)
  · rintro j x t σ H2 hx ⟨Lf, y3, y4, y5, y6, y7, rfl, s2, hld, hlf, hbd⟩ ht
    have hjl := (List.getElem?_eq_some_iff.mp hx).1
    obtain ⟨H3, E3, st, kt⟩ := newH ht (.tup [.int (j : Nat), x])
    rw [E3]
    obtain ⟨os, hos⟩ : ∃ os, A0[j]? = some os := ⟨_, List.getElem?_eq_getElem (by omega)⟩
    obtain ⟨z, hz, b1, ys, rfl, e1, hys⟩ := hzs.at hos
    rw [hx] at hz
    cases hz
    have hyl := hys.1
    have hosG := hG.2 os (List.mem_of_getElem? hos)
    have h12 := hosG.1
    have s03 := s2.trans st
    refine ⟨t, _, rfl, sqt kt, rfl, _, _, rfl, _, _, rfl, rfl, ?_⟩
    refine ⟨_, rfl, b1, _, rfl, sqt (s03 _ _ e1), ?_⟩
    refine forK_enumT (K := K) (a := b1) (xs := ys) (fun (m : Nat) (σ : L2.St) (H' : Hp) => ∃ (Lf : Nat → List Pr) (y5 y6 y7 : Option V), σ = [some (.ref b0), some (.ref L), none, some (.int (j : Nat)), some (.ref b1), y5, y6, y7] ∧ Same H H' ∧ LdIn H H' L A0.length Lf ∧ LfG Lf (fun k i a => (k < j ∨ (k = j ∧ i < m)) ∧ Has A0 k i a) ∧ ∀ a, (Lf a).length ≤ 12 * j + m) ?_ ?_ ?_ ?_
    · exact ⟨Lf, _, _, _, rfl, s03, hld.same st, hlf.imp fun k i a => ⟨fun h => ⟨.inl h.1, h.2⟩, fun h => ⟨h.1.elim id fun h => absurd h.2 (Nat.not_lt_zero _), h.2⟩⟩, hbd⟩
    · rintro m σ H' ⟨Lf, y5, y6, y7, rfl, s4, _⟩
      exact sqt (s4 _ _ e1)
    · rintro m x t σ H4 hx4 ⟨Lf, y5, y6, y7, rfl, s4, hld4, hlf4, hbd4⟩ ht4
      have hml := (List.getElem?_eq_some_iff.mp hx4).1
      obtain ⟨H5, E5, st5, kt5⟩ := newH ht4 (.tup [.int (m : Nat), x])
      rw [E5]
      obtain ⟨o, ho⟩ : ∃ o, os[m]? = some o := ⟨_, List.getElem?_eq_getElem (by omega)⟩
      obtain ⟨u, hu, bo, rfl, eo⟩ := hys.at ho
      rw [hx4] at hu
      cases hu
      have hoA : OptAt A0 j m o := ⟨os, hos, ho⟩
      obtain ⟨hoG, _⟩ := hoA.good hG
      have hnd : o.Nodup := hoG.asc.imp fun h => by omega
      have s05 := s4.trans st5
      refine ⟨t, _, rfl, sqt kt5, rfl, _, _, rfl, _, _, rfl, rfl, ?_⟩
      refine ⟨_, rfl, bo, rfl, ⟨_, sqt (s05 _ _ eo)⟩, ?_⟩
      refine for_tup (K := K) (a := bo) (xs := o.map V.int) (fun (r : Nat) (σ : L2.St) (H' : Hp) => ∃ (Lf : Nat → List Pr) (y7 : Option V), σ = [some (.ref b0), some (.ref L), none, some (.int (j : Nat)), some (.ref b1), some (.int (m : Nat)), some (.ref bo), y7] ∧ Same H H' ∧ LdIn H H' L A0.length Lf ∧ LfG Lf (fun k i a => ((k < j ∨ (k = j ∧ i < m)) ∧ Has A0 k i a) ∨ (k = j ∧ i = m ∧ (a : Int) ∈ o.take r)) ∧ ∀ a, (Lf a).length ≤ 12 * j + m + if (a : Int) ∈ o.take r then 1 else 0) ?_ ?_ ?_ ?_
      · refine ⟨Lf, _, rfl, s05, hld4.same st5, hlf4.imp fun k i a => ⟨.inl, fun h => h.elim id fun h => by have := h.2.2; rw [List.take_zero] at this; exact nomatch this⟩, fun a => ?_⟩
        have := hbd4 a
        omega
      · rintro r σ H' _ ⟨Lf, y7, rfl, s6, _⟩
        exact sqt (s6 _ _ eo)
      · rintro r x σ H6 hx6 ⟨Lf, y7, rfl, s6, hld6, hlf6, hbd6⟩
        rw [List.getElem?_map] at hx6
        obtain ⟨e, he, rfl⟩ := Option.map_eq_some_iff.mp hx6
        have hem := hoG.mem e (List.mem_of_getElem? he)
        refine ⟨_, rfl, _, rfl, rfl, _, rfl, ?_⟩
        by_cases h1 : e = -1
        · refine ifF (by rw [decide_eq_true (congrArg V.int h1)] <;> rfl) ?_
          refine ⟨Lf, _, rfl, s6, hld6, hlf6.imp fun k i a => ?_, fun a => ?_⟩
          · rw [foldK_take he]
            have : ¬ (a : Int) = e := by omega
            exact ⟨fun h => h.imp id fun ⟨a, b, c⟩ => ⟨a, b, .inl c⟩, fun h => h.imp id fun ⟨a, b, c⟩ => ⟨a, b, c.elim id fun z => absurd z this⟩⟩
          · have := hbd6 a
            by_cases hm : (a : Int) ∈ o.take r
            · rw [if_pos hm] at this
              rw [if_pos ((foldK_take he _).mpr (.inl hm))]
              exact this
            · rw [if_neg hm] at this
              omega
        refine ifT (by rw [decide_eq_false (fun h => h1 (V.int.inj h))] <;> rfl) ?_
        obtain ⟨a0, rfl, ha0⟩ := nat_of (n := A0.length) (show 0 ≤ e by omega) hem.2
        obtain ⟨as, a1, a2, a3, a4⟩ := id hld6
        obtain ⟨l, hl⟩ : ∃ l, as[a0]? = some l := ⟨_, List.getElem?_eq_getElem (by omega)⟩
        obtain ⟨nlL, hl0, ts, kl, hts⟩ := a4 a0 l hl
        have htl := hts.1
        have hnr : (a0 : Int) ∉ o.take r := fun h => by
          have hd := List.nodup_append.mp (by rw [List.take_append_drop]; exact hnd : (o.take r ++ o.drop r).Nodup)
          have hdr : (a0 : Int) ∈ o.drop r := by
            refine List.mem_of_getElem? (i := 0) ?_
            rw [List.getElem?_drop]
            exact he
          exact hd.2.2 _ h _ hdr rfl
        have hb0 := hbd6 a0
        rw [if_neg hnr] at hb0
        refine ⟨_, rfl, _, rfl, L, _, _, _, rfl, rfl, sqd a3, atI_nat (show (as.map V.ref)[a0]? = some (V.ref l) by rw [List.getElem?_map, hl]; rfl), .inl ⟨rfl, _, sqd kl⟩, ?_⟩
        refine ⟨_, rfl, _, rfl, Nat.le_of_ble_eq_true rfl, fun tp htp => ?_⟩
        obtain ⟨H7, E7, s7, k7⟩ := newH htp (.tup [.int (j : Nat), .int (m : Nat)])
        rw [E7]
        have kl7 := s7 _ _ kl
        have tpx : Tp H7 (upd H7 l (.lst (ts ++ [.ref tp]))) := tp_put Tp.refl kl7
        refine ⟨l, ts, _, rfl, rfl, kl7, big' (by omega), ?_⟩
        refine ⟨addL Lf a0 (j, m), _, rfl, same_put (s6.trans s7) hl0, ⟨as, a1, a2, by rw [upd_ne nlL.symm]; exact s7 _ _ a3, fun a l' ha => ?_⟩, hlf6.add ?_ fun k i a => ?_, fun a => ?_⟩
        · obtain ⟨h5, h6, ts', h7, h8⟩ := a4 a l' ha
          by_cases ea : a = a0
          · subst ea
            rw [hl] at ha
            cases ha
            refine ⟨h5, h6, ts ++ [.ref tp], upd_same, ?_⟩
            unfold addL
            rw [if_pos rfl]
            exact (hts.mono fun p x => PrIn.tp ((Tp.same s7).trans tpx)).snoc ⟨tp, rfl, tpx _ _ k7⟩
          · have nll : l' ≠ l := fun e => by
              subst e
              exact ea (nd_inj a2 ha hl)
            refine ⟨h5, h6, ts', by rw [upd_ne nll]; exact s7 _ _ h7, ?_⟩
            unfold addL
            rw [if_neg ea]
            exact h8.mono fun p x => PrIn.tp ((Tp.same s7).trans tpx)
        · rintro (⟨h, _⟩ | ⟨_, _, h⟩)
          · omega
          · exact hnr h
        · rw [foldK_take he]
          constructor
          · rintro (h | ⟨h, h', h2 | h2⟩)
            · exact .inl (.inl h)
            · exact .inl (.inr ⟨h, h', h2⟩)
            · exact .inr ⟨h, h', by omega⟩
          · rintro ((h | ⟨h, h', h2⟩) | ⟨h, h', h2⟩)
            · exact .inl h
            · exact .inr ⟨h, h', .inl h2⟩
            · exact .inr ⟨h, h', .inr (by omega)⟩
        · have hba := hbd6 a
          unfold addL
          by_cases ea : a = a0
          · subst ea
            rw [if_pos rfl, if_pos ((foldK_take he _).mpr (.inr rfl)), List.length_append]
            show (Lf a).length + 1 ≤ _
            omega
          · rw [if_neg ea]
            by_cases hm : (a : Int) ∈ o.take r
            · rw [if_pos hm] at hba
              rw [if_pos ((foldK_take he _).mpr (.inl hm))]
              exact hba
            · rw [if_neg hm] at hba
              omega
      · rintro σ H6 ⟨Lf, y7, rfl, s6, hld6, hlf6, hbd6⟩
        rw [List.length_map, List.take_length] at hlf6 hbd6
        refine ⟨Lf, _, _, _, rfl, s6, hld6, hlf6.imp fun k i a => ?_, fun a => ?_⟩
        · constructor
          · rintro (⟨h, h2⟩ | ⟨rfl, rfl, h⟩)
            · exact ⟨h.imp id fun ⟨a, b⟩ => ⟨a, by omega⟩, h2⟩
            · exact ⟨.inr ⟨rfl, by omega⟩, o, hoA, h⟩
          · rintro ⟨h | ⟨rfl, h⟩, h2⟩
            · exact .inl ⟨.inl h, h2⟩
            · by_cases e : i = m
              · subst e
                obtain ⟨o', ho', hm⟩ := h2
                cases ho'.uniq hoA
                exact .inr ⟨rfl, rfl, hm⟩
              · exact .inl ⟨.inr ⟨rfl, by omega⟩, h2⟩
        · have := hbd6 a
          split at this <;> omega
    · rintro σ H4 ⟨Lf, y5, y6, y7, rfl, s4, hld4, hlf4, hbd4⟩
      refine ⟨Lf, _, _, _, _, _, rfl, s4, hld4, hlf4.imp fun k i a => ?_, fun a => ?_⟩
      · constructor
        · rintro ⟨h | ⟨rfl, _⟩, h2⟩
          · exact ⟨by omega, h2⟩
          · exact ⟨by omega, h2⟩
        · rintro ⟨h, h2⟩
          by_cases e : k = j
          · subst e
            obtain ⟨o', ⟨os', h3, h4⟩, _⟩ := id h2
            rw [hos] at h3
            cases h3
            exact ⟨.inr ⟨rfl, by have := (List.getElem?_eq_some_iff.mp h4).1; omega⟩, h2⟩
          · exact ⟨.inl (by omega), h2⟩
      · have := hbd4 a
        omega
  · rintro σ H2 ⟨Lf, y3, y4, y5, y6, y7, rfl, s2, hld, hlf, hbd⟩
    refine ⟨_, rfl, q L Lf H2 s2 hL0 hld (hlf.imp fun k i a => ⟨fun h => h.2, fun h => ⟨?_, h⟩⟩)⟩
    obtain ⟨o, ho, _⟩ := h
    have := (ho.good hG).2
    omega
end
end NL

set_option maxHeartbeats 4000000
namespace NL
open PySem PySem.Spec PyProof.Rows L2
theorem sw_trueD {kx vx : Expr} {gs : List Comprehension} {scope : Scope} {pos py : Pos} {y : Str} {l : Nat} {env : Env} (hk : env.scope.kind = .function) (hy : env.scope.names.lookup y = some .local) (hl : (py.line == pos.line) = true)
    (ha : (scope.names.any fun (n, k) => n == y && (k == .local || k == .cell)) = false) : swapsWith (.DictComp kx vx gs scope pos) (some (.Name y py)) l env = pure true := by
  have ky : env.kindOf y = some .local := hy
  have hb : env.blockKind = .function := by unfold Env.blockKind; rw [hk]; rfl
  unfold swapsWith
  simp only [hb, ky, ha, Expr.pos, hl]
  rfl
/-- name = {k: v for ..} on one line, the name a local -/
theorem ps_setDc {X : Cx} {i : Nat} {y : Str} {py : Pos} {kx vx tg iter : Expr} {ifs : List Expr} {scope : Scope} {own : List (Str × Nat)} {pos spos : Pos} {wi : TI} {g : TG} {tt : TT} {tk tv : TE} (hc : X.calm = true) (hN : X.N.Nodup) (hy : X.N[i]? = some y) (hyl : X.env.scope.names.lookup y = some .local)
    (hsw : swapsWith (.DictComp kx vx [⟨tg, iter, ifs, 0⟩] scope pos) (some (.Name y py)) spos.line X.env = pure true) (hi : PI X tg iter wi) (ok : BlkOk X.N X.env.scope scope own)
    (hg : ∀ (s : Shared) (H : Hp) (C : Addr) (cl : List (Str × Addr)) (fp : List Addr), PG (X.blk s H scope (compEnvC scope cl C X.env) fp) tg g) (ht : ∀ (s : Shared) (H : Hp) (C : Addr) (cl : List (Str × Addr)) (fp : List Addr), PTs (X.blk s H scope (compEnvC scope cl C X.env) fp) ifs tt)
    (hk : ∀ (s : Shared) (H : Hp) (C : Addr) (cl : List (Str × Addr)) (fp : List Addr), PE (X.blk s H scope (compEnvC scope cl C X.env) fp) kx tk)
    (he : ∀ (s : Shared) (H : Hp) (C : Addr) (cl : List (Str × Addr)) (fp : List Addr), PE (X.blk s H scope (compEnvC scope cl C X.env) fp) vx tv) (hs : ∀ x, foldedSetIterable iter X.env x = pure x := by intro _; rfl) :
    PS X (.Assign [.Name y py] (.DictComp kx vx [⟨tg, iter, ifs, 0⟩] scope pos) spos) (tAsg (tDc wi g tt tk tv (own.map (·.2))) (gName i)) := by
  refine ⟨fun pins s σ H D I h => ?_⟩
  rw [exec_Assign_Name_used _ _ _ _ hsw]
  refine wpAny_bind (wpAny_standAt (wpAny_bind ?_))
  show wpAny _ X.A (do let _ ← comprehension (.DictComp kx vx [⟨tg, iter, ifs, 0⟩] scope pos) scope X.env (firstIterPos [⟨tg, iter, ifs, 0⟩] pos) newDict false (eval iter X.env) (some (assign (.Name y py) X.env))) _ _ s
  have h : tDc wi g tt tk tv (own.map (·.2)) σ H (fun x H1 => gName i x σ H1 D.nx) := h
  refine wpAny_bind (thn (dc_core (Qf := fun _ s' => SP X pins D .next s') hc hN I hi ok hg ht hk he hs h fun L C s' m H' I' q hn f => ?_) fun _ s' hq => wpAny_pure (wpAny_pure hq))
  show wpAny _ _ (assign (.Name y py) X.env (.ref L)) _ _ _
  refine wpAny_assign_Name (store_ok2 (v := V.ref L) I' hN hy (.inl hyl) rfl (fun s2 I2 ⟨a, sb, ha⟩ => ?_) (.inr hyl))
  obtain ⟨f0, f1, f2, f3, f4, f5⟩ := f
  have haC : C ≠ a := by
    rcases ha with z | z
    · rw [z]; exact f1
    · exact fun e => f4 y a z e.symm
  refine ⟨m, hn.sameBut sb haC, fun h3 sb3 => ?_⟩
  exact ⟨_, H', I2.turned (t' := s2.toks) (fun b o hb e => (sb3.2 b hb).trans e) f0 f1 f3 f4 f5, q⟩
/-! ### a dict of ints as a list of pairs -/
abbrev Fs := List (Int × Int)
def encP (fs : Fs) : List (Key × V) := fs.map fun p => ((Sum.inl p.1 : Key), V.int p.2)
def look : Fs → Tl
  | [], _ => none
  | p :: r, x => if x = p.1 then some p.2 else look r x
def putP (fs : Fs) (x w : Int) : Fs := if x ∈ fs.map (·.1) then fs.map (fun p => if p.1 = x then (p.1, w) else p) else fs ++ [(x, w)]
def delP (fs : Fs) (x : Int) : Fs := fs.filter fun p => decide (p.1 ≠ x)
theorem val_enc (x : Int) : ∀ fs : Fs, valV (encP fs) (Sum.inl x : Key) = (look fs x).map V.int
  | [] => rfl
  | p :: r => by
    have ih := val_enc x r
    show valV (((Sum.inl p.1 : Key), V.int p.2) :: encP r) (Sum.inl x : Key) = ((if x = p.1 then some p.2 else look r x) : Option Int).map V.int
    by_cases h : x = p.1
    · rw [if_pos h, valV_pos (by show (Sum.inl p.1 : Key) = Sum.inl x; rw [h])]
      rfl
    · rw [if_neg h, valV_neg (fun e => h (Sum.inl.inj e).symm), ih]
theorem any_enc (x : Int) (fs : Fs) : ((encP fs).any fun kv => decide (kv.1 = (Sum.inl x : Key))) = decide (x ∈ fs.map (·.1)) := by
  rw [Bool.eq_iff_iff, List.any_eq_true, decide_eq_true_eq, List.mem_map]
  constructor
  · rintro ⟨kv, h1, h2⟩
    obtain ⟨p, hp, rfl⟩ := List.mem_map.mp h1
    exact ⟨p, hp, Sum.inl.inj (of_decide_eq_true h2)⟩
  · rintro ⟨p, hp, rfl⟩
    exact ⟨_, List.mem_map.mpr ⟨p, hp, rfl⟩, decide_eq_true rfl⟩
theorem put_enc (fs : Fs) (x w : Int) : putK (encP fs) (Sum.inl x : Key) (V.int w) = encP (putP fs x w) := by
  unfold putK putP
  rw [any_enc]
  by_cases h : x ∈ fs.map (·.1)
  · rw [if_pos (decide_eq_true h), if_pos h]
    unfold encP
    rw [List.map_map, List.map_map]
    refine List.map_congr_left fun p _ => ?_
    show (if (Sum.inl p.1 : Key) = Sum.inl x then ((Sum.inl p.1 : Key), V.int w) else ((Sum.inl p.1 : Key), V.int p.2)) = ((Sum.inl (if p.1 = x then (p.1, w) else p).1 : Key), V.int (if p.1 = x then (p.1, w) else p).2)
    by_cases e : p.1 = x
    · rw [if_pos (by rw [e]), if_pos e]
    · rw [if_neg (fun z => e (Sum.inl.inj z)), if_neg e]
  · rw [if_neg (by rw [decide_eq_false h]; exact Bool.false_ne_true), if_neg h]
    unfold encP
    rw [List.map_append]
    rfl
theorem del_enc (fs : Fs) (x : Int) : dropK (encP fs) (Sum.inl x : Key) = encP (delP fs x) := by
  unfold dropK delP encP
  rw [List.filter_map]
  congr 1
  refine List.filter_congr fun p _ => ?_
  exact decide_eq_decide.mpr ⟨fun h e => h (congrArg Sum.inl e), fun h e => h (Sum.inl.inj e)⟩
theorem look_mem : ∀ {fs : Fs} {x w : Int}, look fs x = some w → (x, w) ∈ fs
  | p :: r, x, w, h => by
    unfold look at h
    by_cases e : x = p.1
    · rw [if_pos e] at h
      cases h
      rw [e]
      exact List.mem_cons_self
    · rw [if_neg e] at h
      exact List.mem_cons_of_mem _ (look_mem h)
theorem look_key : ∀ {fs : Fs} {x : Int}, (∃ w, look fs x = some w) ↔ x ∈ fs.map (·.1)
  | [], x => ⟨fun ⟨w, h⟩ => (nomatch h), fun h => (nomatch h)⟩
  | p :: r, x => by
    have ih := look_key (fs := r) (x := x)
    unfold look
    rw [List.map_cons, List.mem_cons]
    by_cases e : x = p.1
    · rw [if_pos e]
      exact ⟨fun _ => .inl e, fun _ => ⟨_, rfl⟩⟩
    · rw [if_neg e, ih]
      exact ⟨.inr, fun h => h.elim (fun z => absurd z e) id⟩
theorem look_of : ∀ {fs : Fs} {x w : Int}, (fs.map (·.1)).Nodup → (x, w) ∈ fs → look fs x = some w
  | p :: r, x, w, hn, h => by
    rw [List.map_cons] at hn
    obtain ⟨h1, h2⟩ := List.nodup_cons.mp hn
    unfold look
    rcases List.mem_cons.mp h with rfl | h
    · rw [if_pos rfl]
    · have e : x ≠ p.1 := fun e => h1 (by rw [← e]; exact List.mem_map.mpr ⟨_, h, rfl⟩)
      rw [if_neg e]
      exact look_of h2 h
theorem put_keys (fs : Fs) (x w : Int) : (putP fs x w).map (·.1) = if x ∈ fs.map (·.1) then fs.map (·.1) else fs.map (·.1) ++ [x] := by
  unfold putP
  split
  · rw [List.map_map]
    refine List.map_congr_left fun p _ => ?_
    show (if p.1 = x then (p.1, w) else p).1 = p.1
    split <;> rfl
  · rw [List.map_append]
    rfl
theorem put_nd {fs : Fs} (h : (fs.map (·.1)).Nodup) (x w : Int) : ((putP fs x w).map (·.1)).Nodup := by
  rw [put_keys]
  split
  · exact h
  · rename_i hx
    refine List.nodup_append.mpr ⟨h, by simp, fun a ha b hb e => hx ?_⟩
    rw [← List.mem_singleton.mp hb, ← e]
    exact ha
theorem del_nd {fs : Fs} (h : (fs.map (·.1)).Nodup) (x : Int) : ((delP fs x).map (·.1)).Nodup := h.sublist (List.filter_sublist.map _)
theorem look_put {fs : Fs} (h : (fs.map (·.1)).Nodup) (x w : Int) : look (putP fs x w) = setT (look fs) x (some w) := by
  funext y
  have hnd := put_nd h x w
  by_cases e : y = x
  · subst e
    rw [setT_same]
    refine look_of hnd ?_
    unfold putP
    split
    · rename_i hx
      obtain ⟨p, hp, he⟩ := List.mem_map.mp hx
      refine List.mem_map.mpr ⟨p, hp, ?_⟩
      have he : p.1 = y := he
      rw [if_pos he, he]
    · exact List.mem_append_right _ List.mem_cons_self
  · rw [setT_ne e]
    cases hy : look fs y with
    | some v =>
      refine look_of hnd ?_
      have hm := look_mem hy
      unfold putP
      split
      · exact List.mem_map.mpr ⟨(y, v), hm, if_neg e⟩
      · exact List.mem_append_left _ hm
    | none =>
      cases hz : look (putP fs x w) y with
      | none => rfl
      | some v =>
        have h1 := look_key.mp ⟨v, hz⟩
        rw [put_keys] at h1
        have h2 : y ∈ fs.map (·.1) := by
          split at h1
          · exact h1
          · rcases List.mem_append.mp h1 with h1 | h1
            · exact h1
            · exact absurd (List.mem_singleton.mp h1) e
        obtain ⟨v', h3⟩ := look_key.mpr h2
        rw [hy] at h3
        cases h3
theorem look_del {fs : Fs} (h : (fs.map (·.1)).Nodup) (x : Int) : look (delP fs x) = setT (look fs) x none := by
  funext y
  by_cases e : y = x
  · subst e
    rw [setT_same]
    cases hz : look (delP fs y) y with
    | none => rfl
    | some v =>
      have := look_mem hz
      unfold delP at this
      have := of_decide_eq_true (List.mem_filter.mp this).2
      exact absurd rfl this
  · rw [setT_ne e]
    cases hy : look fs y with
    | some v =>
      refine look_of (del_nd h x) ?_
      unfold delP
      exact List.mem_filter.mpr ⟨look_mem hy, decide_eq_true e⟩
    | none =>
      cases hz : look (delP fs x) y with
      | none => rfl
      | some v =>
        have := look_mem hz
        unfold delP at this
        have := look_of h (List.mem_filter.mp this).1
        rw [hy] at this
        cases this
theorem len_del {fs : Fs} {x : Int} : (delP fs x).length ≤ fs.length := List.length_filter_le _ _
end NL

set_option maxHeartbeats 4000000
namespace NL
open PySem PySem.Spec PyProof.Rows L2
/-! ### min of a list of pairs of ints -/
def plt (p q : Int × Int) : Bool := decide (p.1 < q.1 ∨ (p.1 = q.1 ∧ p.2 < q.2))
theorem lexLt2 (a b c d : Int) : HT.lexLt [a, b] [c, d] = plt (a, b) (c, d) := by
  rw [HT.lexLt_cons]
  unfold plt
  by_cases h : a = c
  · rw [if_pos h, HT.lexLt_cons]
    by_cases h2 : b = d
    · rw [if_pos h2, HT.lexLt_nil_nil]
      exact (decide_eq_false (by show ¬ (a < c ∨ (a = c ∧ b < d)); omega)).symm
    · rw [if_neg h2]
      by_cases h3 : b < d
      · rw [decide_eq_true h3]; exact (decide_eq_true (by show a < c ∨ (a = c ∧ b < d); omega)).symm
      · rw [decide_eq_false h3]; exact (decide_eq_false (by show ¬ (a < c ∨ (a = c ∧ b < d)); omega)).symm
  · rw [if_neg h]
    by_cases h3 : a < c
    · rw [decide_eq_true h3]; exact (decide_eq_true (by show a < c ∨ (a = c ∧ b < d); omega)).symm
    · rw [decide_eq_false h3]; exact (decide_eq_false (by show ¬ (a < c ∨ (a = c ∧ b < d)); omega)).symm
theorem plt_irr (p : Int × Int) : plt p p = false := decide_eq_false (by omega)
theorem plt_tr {p q r : Int × Int} (h1 : plt p q = false) (h2 : plt r q = true) : plt p r = false := by
  have h2 := of_decide_eq_true h2
  have h1 := of_decide_eq_false h1
  exact decide_eq_false (by omega)
theorem best_pair (g : Nat → Int × Int) : ∀ k, argBest (fun i j => plt (g i) (g j)) k ≤ k ∧ ∀ j, j ≤ k → plt (g j) (g (argBest (fun i j => plt (g i) (g j)) k)) = false
  | 0 => ⟨Nat.le_refl _, fun j hj => by
    have : j = 0 := by omega
    subst this
    exact plt_irr _⟩
  | k + 1 => by
    obtain ⟨h1, h2⟩ := best_pair g k
    cases hb : plt (g (k + 1)) (g (argBest (fun i j => plt (g i) (g j)) k)) with
    | true =>
      have e : argBest (fun i j => plt (g i) (g j)) (k + 1) = k + 1 := by
        show (if plt (g (k + 1)) (g (argBest (fun i j => plt (g i) (g j)) k)) = true then k + 1 else argBest (fun i j => plt (g i) (g j)) k) = k + 1
        rw [hb, if_pos rfl]
      rw [e]
      refine ⟨Nat.le_refl _, fun j hj => ?_⟩
      by_cases hjk : j ≤ k
      · exact plt_tr (h2 j hjk) hb
      · have : j = k + 1 := by omega
        rw [this]
        exact plt_irr _
    | false =>
      have e : argBest (fun i j => plt (g i) (g j)) (k + 1) = argBest (fun i j => plt (g i) (g j)) k := by
        show (if plt (g (k + 1)) (g (argBest (fun i j => plt (g i) (g j)) k)) = true then k + 1 else argBest (fun i j => plt (g i) (g j)) k) = _
        rw [hb, if_neg Bool.false_ne_true]
      rw [e]
      refine ⟨Nat.le_succ_of_le h1, fun j hj => ?_⟩
      by_cases hjk : j ≤ k
      · exact h2 j hjk
      · have : j = k + 1 := by omega
        rw [this]
        exact hb
def rMinP (K : PySem.W.Frag) : List V → Hp → VK → Prop := fun vs H Q => ∃ (a : Addr) (ts : List Addr) (ps : List (Int × Int)), vs = [V.ref a] ∧ SqL K H a (ts.map V.ref) ∧ ts.length = ps.length ∧ 0 < ps.length ∧ (∀ (i : Nat) t p, ts[i]? = some t → ps[i]? = some p → SqT K H t ([p.1, p.2].map V.int)) ∧
  ∀ (i : Nat) t p, ts[i]? = some t → ps[i]? = some p → (∀ q ∈ ps, plt q p = false) → Q (.ref t) H
theorem cr_minP {X : Cx} (hc : X.calm = true) (hu : X.A.units + 1 < cLine) : CallR X (.builtin "min") (rMinP X.K) := by
  intro pins s σ H vs us Q I r h
  obtain ⟨a, ts, ps, rfl, hs, hlen, hne, hts, q⟩ := h
  obtain ⟨its, rv, hl, _⟩ := I.list hs
  rw [Vals.ref1 r]
  have hitl := rv.length
  rw [List.length_map] at hitl
  have hit : ∀ (i : Nat) v, its.toArray[i]? = some v → ∃ t p, ts[i]? = some t ∧ ps[i]? = some p ∧ v = .ref t ∧ ∃ its2, PyProof.Rows.IntsAre its2 [p.1, p.2] ∧ s.heap.IsTuple t its2.toArray := fun i v hv => by
    have hv2 : its[i]? = some v := by simpa using hv
    have hil := (List.getElem?_eq_some_iff.mp hv2).1
    have ht := List.getElem?_eq_getElem (show i < ts.length by omega)
    have hp := List.getElem?_eq_getElem (show i < ps.length by omega)
    obtain ⟨u, hu1, ru⟩ := rv.get (i := i) (x := V.ref ts[i]) (by rw [List.getElem?_map, ht]; rfl)
    rw [hv2] at hu1
    cases hu1
    obtain ⟨its2, rv2, pt, _⟩ := I.tuple (hts i _ _ ht hp)
    exact ⟨_, _, ht, hp, ru, its2, rv2.ints, pt⟩
  refine call_min_walkH (PySem.W.iter_listW (A := X.A.in1) (I.ok.hd hc) hl.isList fun s₂ e W st hfp hw hk => ?_)
  refine ⟨_, _, _, _, _, _, _, s.heap, (fun i j => plt (ps.getD i (0, 0)) (ps.getD j (0, 0))), rfl, W, st, hfp, by rw [List.size_toArray]; omega, hw, hk, ?_, fun v s' hP m => ?_⟩
  · intro i j vi vj s' Q' E' hk' hi hj hQ
    obtain ⟨t, p, ht, hp, rfl, it2, hin, hI⟩ := hit i vi hi
    obtain ⟨t', p', ht', hp', rfl, it2', hin', hI'⟩ := hit j vj hj
    obtain ⟨o, ho, h2⟩ := hI
    obtain ⟨o', ho', h2'⟩ := hI'
    refine HT.lt_tupInts (items := it2.toArray) (items2 := it2'.toArray) ⟨o, hk' _ _ ho, h2⟩ ⟨o', hk' _ _ ho', h2'⟩ hin hin' hu ?_
    rw [lexLt2]
    have hQ2 : Q' (.bool (plt (ps.getD i (0, 0)) (ps.getD j (0, 0)))) s' := hQ
    rw [show ps.getD i (0, 0) = p by rw [List.getD_eq_getElem?_getD, hp]; rfl, show ps.getD j (0, 0) = p' by rw [List.getD_eq_getElem?_getD, hp']; rfl] at hQ2
    exact hQ2
  · obtain ⟨h', tk, rfl, hk'⟩ := PySem.W.moved_old e rfl m
    obtain ⟨b1, b2⟩ := best_pair (fun i => ps.getD i (0, 0)) (its.toArray.size - 1)
    obtain ⟨t, p, ht, hp, rfl, _⟩ := hit _ v hP
    refine ⟨.ref t, H, I.kept hk', rfl, q _ t p ht hp fun z hz => ?_⟩
    obtain ⟨j, hj⟩ := List.getElem?_of_mem hz
    have hjl := (List.getElem?_eq_some_iff.mp hj).1
    have h3 := b2 j (by rw [List.size_toArray]; omega)
    rw [show ps.getD j (0, 0) = z by rw [List.getD_eq_getElem?_getD, hj]; rfl] at h3
    have h4 : ps.getD (argBest (fun i j => plt (ps.getD i (0, 0)) (ps.getD j (0, 0))) (its.toArray.size - 1)) (0, 0) = p := by rw [List.getD_eq_getElem?_getD, hp]; rfl
    rw [h4] at h3
    exact h3
end NL

set_option maxHeartbeats 4000000
namespace NL
open PySem PySem.Spec PyProof.Rows L2
/-! ### a tuple times a number of any sign -/
theorem tuple_mul1 (l : Addr) (items : Array Value) (n : Nat) (dd : Option Addr) (sl : Array (Option Value)) (x : Int) (u : Tok) (c0 : (decide (x < -(2 ^ 63)) || decide (x ≥ 2 ^ 63)) = false) (c1 : (items.isEmpty || x == 1) = true) :
    Meets (Builtin.«tuple.__mul__» ⟨[.ref l, .int x u], []⟩) (fun _ R s => s.heap.get? l = some { cls := .type "tuple", dict := dd, data := .seq items n, slots := sl } ∧
      R (.ok (.ret (Value.ref l))) s) :=
  .of_wp fun prog w A R s h => by
    obtain ⟨hp, g, d, tk, os⟩ := s
    obtain ⟨hl, h⟩ := h
    have f1 := AutoSeq1.idx_int
    wp_walk using wpAny_loadPart' hl
    repeat (first
      | (refine wpAny_ite_false (decide_eq_false (by rw [c0]; exact Bool.false_ne_true)) ?_; wp_walk using wpAny_loadPart' hl)
      | (refine wpAny_ite_true (decide_eq_true c1) ?_; wp_walk using wpAny_loadPart' hl))
    exact ⟨_, rfl, h⟩
theorem tuple_mul0 (l : Addr) (items : Array Value) (n : Nat) (dd : Option Addr) (sl : Array (Option Value)) (x : Int) (u : Tok) (c0 : (decide (x < -(2 ^ 63)) || decide (x ≥ 2 ^ 63)) = false) (c1 : (items.isEmpty || x == 1) = false) (c2 : (decide (x ≤ 0) || items.isEmpty) = true) :
    Meets (Builtin.«tuple.__mul__» ⟨[.ref l, .int x u], []⟩) (fun _ R s => s.heap.get? l = some { cls := .type "tuple", dict := dd, data := .seq items n, slots := sl } ∧
      R (.ok (.ret (Value.ref s.heap.objs.size))) { s with heap := s.heap.push { cls := Value.type "tuple", data := Data.seq #[] }, toks := s.toks }) :=
  .of_wp fun prog w A R s h => by
    obtain ⟨hp, g, d, tk, os⟩ := s
    obtain ⟨hl, h⟩ := h
    have f1 := AutoSeq1.idx_int
    wp_walk using wpAny_loadPart' hl
    repeat (first
      | (refine wpAny_ite_false (decide_eq_false (by rw [c0]; exact Bool.false_ne_true)) ?_; wp_walk using wpAny_loadPart' hl)
      | (refine wpAny_ite_false (decide_eq_false (by rw [c1]; exact Bool.false_ne_true)) ?_; wp_walk using wpAny_loadPart' hl)
      | (refine wpAny_ite_true (decide_eq_true c2) ?_; wp_walk using wpAny_loadPart' hl))
    exact ⟨_, rfl, h⟩
def rRepZ (K : PySem.W.Frag) : R2 := fun x y H Q => ∃ l k xs, x = .ref l ∧ y = .int k ∧ SqT K H l xs ∧ xs ≠ [] ∧ -1000 ≤ k ∧ k ≤ 1000 ∧ xs.length ≤ 1000 ∧ (k = 1 → Q (.ref l) H) ∧ (k ≠ 1 → ∀ p, H p = none → Q (.ref p) (upd H p (.tup (List.replicate k.toNat xs).flatten)))
theorem op_repZ {X : Cx} : OpR X (binaryOp .Mult) (rRepZ X.K) := by
  intro pins s σ H x y v u Q I rx ry h
  obtain ⟨l, k, xs, rfl, rfl, hT, hne, h1, h2, hz, q1, q⟩ := h
  by_cases hk2 : 2 ≤ k
  · exact op_repT pins s σ H _ _ v u Q I rx ry ⟨l, k, xs, rfl, rfl, hT, hne, hk2, h2, hz, q (by omega)⟩
  cases rx
  obtain ⟨t, rfl⟩ := ry
  obtain ⟨its, r, ⟨⟨cls, dd, data, sl⟩, ho, hc, n, hd⟩, hs⟩ := I.tuple hT
  simp only at hc hd
  subst hc hd
  have hle : its.length = xs.length := r.length.symm
  have hn : its ≠ [] := fun e => hne (by
    rw [e] at hle
    exact List.eq_nil_of_length_eq_zero hle.symm)
  have hi : its.toArray.isEmpty = false := by
    cases its with
    | nil => exact absurd rfl hn
    | cons a b => rfl
  have c0 : (decide (k < -(2 ^ 63)) || decide (k ≥ 2 ^ 63)) = false := by
    rw [decide_eq_false (by omega), decide_eq_false (by omega)] <;> rfl
  by_cases hk1 : k = 1
  · have c1 : (its.toArray.isEmpty || k == 1) = true := by
      rw [hk1, hi]
      rfl
    refine wpAny_binaryOp_repeat_ref (T := "tuple") (U := "int") (by decide) ⟨_, ho, rfl⟩ (fun s' => typeIs_int s' k t) noFill_tuple_mul F.fills_int_mul F.slot_int_rmul repeat_tuple F.slot_int_index.lookup
      (call_meets F.slot_int_rmul (typeIs_int s k t) F.entry_int_rmul (F.args_int_rmul_2 _ _) (int_rmul_tuple k t l its.toArray n dd sl)
        ⟨ho, rfl, ⟨_, ho, rfl⟩, call_meets F.slot_tuple_mul ⟨_, ho, rfl⟩ F.entry_tuple_mul (F.args_tuple_mul_2 _ _) (tuple_mul1 l its.toArray n dd sl k t c0 c1) ⟨ho, ?_⟩⟩)
    exact ⟨.ref l, H, I, rfl, q1 hk1⟩
  · have c1 : (its.toArray.isEmpty || k == 1) = false := by
      rw [hi, Bool.false_or]
      exact beq_eq_false_iff_ne.mpr hk1
    have c2 : (decide (k ≤ 0) || its.toArray.isEmpty) = true := by
      rw [decide_eq_true (by omega)]
      rfl
    refine wpAny_binaryOp_repeat_ref (T := "tuple") (U := "int") (by decide) ⟨_, ho, rfl⟩ (fun s' => typeIs_int s' k t) noFill_tuple_mul F.fills_int_mul F.slot_int_rmul repeat_tuple F.slot_int_index.lookup
      (call_meets F.slot_int_rmul (typeIs_int s k t) F.entry_int_rmul (F.args_int_rmul_2 _ _) (int_rmul_tuple k t l its.toArray n dd sl)
        ⟨ho, rfl, ⟨_, ho, rfl⟩, call_meets F.slot_tuple_mul ⟨_, ho, rfl⟩ F.entry_tuple_mul (F.args_tuple_mul_2 _ _) (tuple_mul0 l its.toArray n dd sl k t c0 c1 c2) ⟨ho, ?_⟩⟩)
    refine ⟨.ref s.heap.objs.size, _, I.laid (t' := s.toks) (o := .tup (List.replicate k.toNat xs).flatten) (fun b ob q => Heap.get?_push_of_some _ q) (Nat.le_refl _) ?_, rfl, q hk1 _ (I.hok.fresh (Nat.le_refl _))⟩
    rw [show k.toNat = 0 by omega]
    exact ⟨Nat.zero_le _, [], .nil, IsTup.new _ _⟩
end NL

set_option maxHeartbeats 4000000
namespace NL
open PySem PySem.Spec PyProof.Rows L2
/-! ### least_costs -/
def rwL (m : Nat → Nat → Int) (k len : Nat) : List V := (List.range len).map fun i => V.int (m k i)
theorem rwL_len (m : Nat → Nat → Int) (k len : Nat) : (rwL m k len).length = len := by unfold rwL; rw [List.length_map, List.length_range]
theorem rwL_at {m : Nat → Nat → Int} {k len i : Nat} (h : i < len) : (rwL m k len)[i]? = some (V.int (m k i)) := by
  unfold rwL
  rw [List.getElem?_map, List.getElem?_range h]
  rfl
theorem rwL_ext {m m' : Nat → Nat → Int} {k len : Nat} (h : ∀ i, i < len → m k i = m' k i) : rwL m k len = rwL m' k len := List.map_congr_left fun i hi => by rw [h i (List.mem_range.mp hi)]
def setM (m : Nat → Nat → Int) (k i : Nat) (w : Int) : Nat → Nat → Int := fun k' i' => if k' = k ∧ i' = i then w else m k' i'
theorem rwL_set {m : Nat → Nat → Int} {k len i : Nat} {w : Int} (hi : i < len) : (rwL m k len).set i (V.int w) = rwL (setM m k i w) k len := by
  refine List.ext_getElem? fun j => ?_
  rw [List.getElem?_set]
  by_cases hj : i = j
  · subst hj
    rw [if_pos rfl, if_pos (by rw [rwL_len]; exact hi), rwL_at hi]
    unfold setM
    rw [if_pos ⟨rfl, rfl⟩]
  · rw [if_neg hj]
    rcases Nat.lt_or_ge j len with h | h
    · rw [rwL_at h, rwL_at h]
      unfold setM
      rw [if_neg (fun e => hj e.2.symm)]
    · rw [List.getElem?_eq_none (by rw [rwL_len]; exact h), List.getElem?_eq_none (by rw [rwL_len]; exact h)]
def optF (A : Ar) (k i : Nat) : Opt := (((A[k]?).getD [])[i]?).getD []
theorem optF_at {A : Ar} {k i : Nat} {o : Opt} (h : OptAt A k i o) : optF A k i = o := by
  obtain ⟨os, h1, h2⟩ := h
  unfold optF
  rw [h1]
  show (os[i]?).getD [] = o
  rw [h2]
  rfl
/-- where the search stands: H1 is the heap behind the lists of pairs -/
structure DjH (H1 H : Hp) (Mr tl D : Addr) (rs : List Addr) (A : Ar) (T : Tl) (m : Nat → Nat → Int) (fs : Fs) : Prop where
  sm : Same H1 H
  mr : H Mr = some (.lst (rs.map V.ref))
  row : ∀ (k : Nat) r os, rs[k]? = some r → A[k]? = some os → H r = some (.lst (rwL m k os.length))
  tl : H tl = some (.lst (tlV A.length T))
  dd : H D = some (.dK (encP fs))
structure DjA (H1 : Hp) (Mr tl D : Addr) (rs : List Addr) (A : Ar) : Prop where
  len : rs.length = A.length
  nd : rs.Nodup
  r1 : ∀ r ∈ rs, H1 r = none ∧ r ≠ Mr ∧ r ≠ tl
  tM : tl ≠ Mr
  t1 : H1 tl = none
  d1 : H1 D = none
section
variable {H1 H : Hp} {Mr tl D : Addr} {rs : List Addr} {A : Ar} {T : Tl} {m : Nat → Nat → Int} {fs : Fs}
theorem DjH.same {H' : Hp} (h : DjH H1 H Mr tl D rs A T m fs) (s : Same H H') : DjH H1 H' Mr tl D rs A T m fs :=
  ⟨h.sm.trans s, s _ _ h.mr, fun k r os h1 h2 => s _ _ (h.row k r os h1 h2), s _ _ h.tl, s _ _ h.dd⟩
theorem DjH.setD (h : DjH H1 H Mr tl D rs A T m fs) (a : DjA H1 Mr tl D rs A) (fs' : Fs) : DjH H1 (upd H D (.dK (encP fs'))) Mr tl D rs A T m fs' := by
  have ne : ∀ {x : Addr} {l : List V}, H x = some (.lst l) → x ≠ D := fun e z => by rw [z, h.dd] at e; cases e
  exact ⟨same_put h.sm a.d1, by rw [upd_ne (ne h.mr)]; exact h.mr, fun k r os h1 h2 => by rw [upd_ne (ne (h.row k r os h1 h2))]; exact h.row k r os h1 h2, by rw [upd_ne (ne h.tl)]; exact h.tl, upd_same⟩
theorem DjH.setT (h : DjH H1 H Mr tl D rs A T m fs) (a : DjA H1 Mr tl D rs A) (T' : Tl) : DjH H1 (upd H tl (.lst (tlV A.length T'))) Mr tl D rs A T' m fs := by
  have nd : D ≠ tl := fun z => by have := h.tl; rw [← z, h.dd] at this; cases this
  exact ⟨same_put h.sm a.t1, by rw [upd_ne a.tM.symm]; exact h.mr, fun k r os h1 h2 => by rw [upd_ne (a.r1 r (List.mem_of_getElem? h1)).2.2]; exact h.row k r os h1 h2, upd_same, by rw [upd_ne nd]; exact h.dd⟩
theorem DjH.setR (h : DjH H1 H Mr tl D rs A T m fs) (a : DjA H1 Mr tl D rs A) {k i : Nat} {r : Addr} {os : Pos'} (hr : rs[k]? = some r) (ho : A[k]? = some os) (w : Int) : DjH H1 (upd H r (.lst (rwL (setM m k i w) k os.length))) Mr tl D rs A T (setM m k i w) fs := by
  obtain ⟨r1, r2, r3⟩ := a.r1 r (List.mem_of_getElem? hr)
  have nd : D ≠ r := fun z => by have := h.row k r os hr ho; rw [← z, h.dd] at this; cases this
  refine ⟨same_put h.sm r1, by rw [upd_ne r2.symm]; exact h.mr, fun k' r' os' h1 h2 => ?_, by rw [upd_ne r3.symm]; exact h.tl, by rw [upd_ne nd]; exact h.dd⟩
  by_cases e : k' = k
  · subst e
    rw [hr] at h1
    cases h1
    rw [ho] at h2
    cases h2
    exact upd_same
  · have nr : r' ≠ r := fun z => by
      subst z
      exact e (nd_inj a.nd h1 hr)
    rw [upd_ne nr, h.row k' r' os' h1 h2]
    congr 2
    exact rwL_ext fun i' _ => by
      unfold setM
      rw [if_neg (fun z => e z.1)]
end
theorem DjH.thaw {H1 H H' : Hp} {Mr tl D : Addr} {rs : List Addr} {A : Ar} {T : Tl} {m : Nat → Nat → Int} {fs : Fs} (h : DjH H1 H Mr tl D rs A T m fs) (a : DjA H1 Mr tl D rs A) (hk : ∀ b o, b ≠ D → H b = some o → H' b = some o) : DjH H1 (upd H' D (.dK (encP fs))) Mr tl D rs A T m fs := by
  have ne : ∀ {x : Addr} {l : List V}, H x = some (.lst l) → x ≠ D := fun e z => by rw [z, h.dd] at e; cases e
  refine ⟨fun b o e => ?_, by rw [upd_ne (ne h.mr)]; exact hk _ _ (ne h.mr) h.mr, fun k r os h1 h2 => by rw [upd_ne (ne (h.row k r os h1 h2))]; exact hk _ _ (ne (h.row k r os h1 h2)) (h.row k r os h1 h2), by rw [upd_ne (ne h.tl)]; exact hk _ _ (ne h.tl) h.tl, upd_same⟩
  have nb : b ≠ D := fun z => by rw [z, a.d1] at e; cases e
  rw [upd_ne nb]
  exact hk b o nb (h.sm b o e)
section
variable {P : Program} {w : World} {K : PySem.W.Frag} {mg : Str → Option Value} {base : Heap}
def spCost : Sp := fun vs H Q _ => ∃ (v gv : V) (hp : Addr) (A : Ar) (hm : List Int) (gn : List (List Int)), vs = [v, .ref hp, gv] ∧ ArIn H A v ∧ ArG A ∧ H hp = some (.tup (hm.map V.int)) ∧ (∀ x ∈ hm, 0 ≤ x ∧ x < (A.length : Int)) ∧ PosIn H gn gv ∧ CsG A gn ∧
  ∀ (p : Addr) (T : Tl) (O : List Int) H', Same H H' → H' p = some (.tup (tlV A.length T)) → Sol A (cstF gn) hm T O → Q (.ref p) H'
theorem ok_least_costs (T : Txt K mg) : FnOk P w K mg base CX0 2 T.aleast_costs T.dleast_costs Pleast_costs spCost := by
  have G_options_to := ok_options_to (P := P) (w := w) (base := base) T
  refine T.Fleast_costs.ok scleast_costs (fun vs H Q E h => ?_) (fun cdv A outer s H vs Q E hr h => ?_)
  · obtain ⟨v, gv, hp, A, hm, gn, rfl, _⟩ := h
    rfl
  obtain ⟨v, gv, hp, A0, hm, gn, rfl, hA, hG, eh, hhm, hgv, hC, q⟩ := h
  have h400 := hG.1
  obtain ⟨b0, zs, rfl, e0, hzs⟩ := id hA
  have hzl := hzs.1
  obtain ⟨kg, ws, rfl, ekg, hws⟩ := id hgv
  refine ⟨_, (pss_cons (ps_set (i := 3) scleast_costs.nd rfl (Or.inl rfl) (pe_call G_options_to (hr.mono (by omega)) (by rfl) T.m_options_to T.F_options_to.kp T.b_options_to .nil pass0 (pa_cons (pv 0) pa_nil)))
    (pss_cons (ps_setLc (i := 4) (own := [("options", 6)]) (g := (gName 6)) (tt := tYes) rfl scleast_costs.nd rfl rfl (sw_true rfl rfl rfl (by decide +kernel)) (pi_tup (pv 0)) (blkOk_by (N := Nleast_costs) (sc := defScope sleast_costs) (by decide +kernel)) (fun _ _ _ _ _ => (pg_name (i := 6) scleast_costs.nd rfl (Or.inl rfl))) (fun _ _ _ _ _ => pts_nil) (fun _ _ _ _ _ => (pe_lc (own := [("option", 5)]) (g := (gName 5)) (tt := tYes) rfl scleast_costs.nd (pi_tupK (K := K) rfl (pv 6)) (blkOk_by (by rfl)) (fun _ _ _ _ _ => (pg_name (i := 5) scleast_costs.nd rfl (Or.inl rfl))) (fun _ _ _ _ _ => pts_nil) (fun _ _ _ _ _ => (pe_callB (call_len_seqK (K := K) rfl) (by rfl) T.z_len PySem.boot_len (pa_cons (pv 5) pa_nil))))))
    (pss_cons (ps_set (i := 7) scleast_costs.nd rfl (Or.inl rfl) (pe_op op_rep (pe_lst (pa_cons pe_non pa_nil)) (pe_callB call_len_seq (by rfl) T.z_len PySem.boot_len (pa_cons (pv 0) pa_nil))))
    (pss_cons (ps_set (i := 8) scleast_costs.nd rfl (Or.inr rfl) (pe_dc (own := [("at", 9)]) (g := (gName 9)) (tt := tYes) rfl scleast_costs.nd (pi_tup (pv 1)) (blkOk_by (N := Nleast_costs) (sc := defScope sleast_costs) (by decide +kernel)) (fun _ _ _ _ _ => (pg_name (i := 9) scleast_costs.nd rfl (Or.inl rfl))) (fun _ _ _ _ _ => pts_nil) (fun _ _ _ _ _ => (pv 9)) (fun _ _ _ _ _ => pe_int)))
    (pss_cons (ps_while PassesOwn.never (pt_truth (pv 8) (fun _ => rfl))
    (pss_cons (ps_lock (ps_asg (pe_callB (cr_minP rfl (hu_of hr)) (by rfl) T.z_min (by decide +kernel) (pa_cons (pe_lc (own := [("place", 11)]) (g := (gName 11)) (tt := tYes) rfl scleast_costs.nd (pi_keys (pv 8)) (blkOk_by (N := Nleast_costs) (sc := defScope sleast_costs) (by decide +kernel)) (fun _ _ _ _ _ => (pg_name (i := 11) scleast_costs.nd rfl (Or.inl rfl))) (fun _ _ _ _ _ => pts_nil) (fun _ _ _ _ _ => (pe_tup (pa_cons (pe_dget (hu_of hr) (pv 8) (pv 11) (fun _ _ => rfl)) (pa_cons (pv 11) pa_nil))))) pa_nil)) (pg_tup rfl (pgs_cons (pg_name (i := 10) scleast_costs.nd rfl (Or.inl rfl)) (pgs_cons (pg_name (i := 9) scleast_costs.nd rfl (Or.inl rfl)) pgs_nil)))))
    (pss_cons (ps_ddel (pv 8) (pv 9))
    (pss_cons (ps_asg (pv 10) (pg_sub (pv 7) (pv 9) set_list))
    (pss_one (ps_for  PassesOwn.never rfl (pi_list (pe_ix ix_list (pv 3) (pv 9) (fun _ _ => rfl))) (pg_tup rfl (pgs_cons (pg_name (i := 12) scleast_costs.nd rfl (Or.inl rfl)) (pgs_cons (pg_name (i := 13) scleast_costs.nd rfl (Or.inl rfl)) pgs_nil)))
    (pss_cons (ps_augS (pe_ix ix_list (pv 4) (pv 12) (fun _ _ => rfl)) (pv 13) pgetL pe_int ip_sub set_list)
    (pss_one (ps_if (PW.pt (pw_and (pt_cmpR op_eq (pe_ix ix_list (pe_ix ix_list (pv 4) (pv 12) (fun _ _ => rfl)) (pv 13) (fun _ _ => rfl)) pe_int (nomark _)) (pw_and1 (pt_cmpR op_isN (pe_ix ix_list (pv 7) (pv 12) (fun _ _ => rfl)) pe_non (nomark _)))))
    (pss_cons (ps_set (i := 14) scleast_costs.nd rfl (Or.inl rfl) (pe_op op_add (pv 10) (pe_ix ix_tup (pe_ix ix_tup (pv 2) (pv 12) (fun _ _ => rfl)) (pv 13) (fun _ _ => rfl))))
    (pss_one (ps_dput (hu_of hr) (pv 8) (pv 12) (pe_callB (call_min2 rfl) (by rfl) T.z_min (by decide +kernel) (pa_cons (pv 14) (pa_cons (pe_dget2 (hu_of hr) (pv 8) (pv 12) (pv 14) ⟨rfl, rfl, rfl, rfl⟩) pa_nil))) rfl)))
    pss_nil)))))))))
    (pss_one (ps_ret (pe_callTy call_tuple_of (by rfl) T.z_tuple (by decide +kernel) (pa_cons (pv 7) pa_nil))))))))), ?_⟩
  refine ⟨_, rfl, .ref b0, A0, rfl, hA, hG, fun L Lf H1 s1 hL0 hld hlf => ?_⟩
  -- missing
  refine ⟨_, rfl, b0, rfl, ⟨_, sqt (s1 _ _ e0)⟩, fun Mr hMr => ?_⟩
  have hMr0 : H1 Mr = none := hMr
  refine lc_tup (K := K) (a := b0) (xs := zs) (fun (j : Nat) (H' : Hp) => ∃ rs : List Addr, Same H1 H' ∧ rs.length = j ∧ rs.Nodup ∧ H' Mr = some (.lst (rs.map V.ref)) ∧ ∀ (k : Nat) r, rs[k]? = some r → r ≠ Mr ∧ H1 r = none ∧ ∀ os, A0[k]? = some os → H' r = some (.lst (rwL (fun k i => ((optF A0 k i).length : Int)) k os.length))) ?_ ?_ ?_ ?_
  · exact ⟨[], same_new hMr _, rfl, List.nodup_nil, upd_same, fun k r h => by simp at h⟩
  · rintro j H' _ ⟨rs, s2, _⟩
    exact sqt (s2 _ _ (s1 _ _ e0))
  · rintro j x H2 hx ⟨rs, s2, r1, r2, r3, r4⟩
    have hjl := (List.getElem?_eq_some_iff.mp hx).1
    obtain ⟨os, hos⟩ : ∃ os, A0[j]? = some os := ⟨_, List.getElem?_eq_getElem (by omega)⟩
    obtain ⟨z, hz, b1, ys, rfl, e1, hys⟩ := hzs.at hos
    rw [hx] at hz
    cases hz
    have hyl := hys.1
    have hosG := hG.2 os (List.mem_of_getElem? hos)
    have h12 := hosG.1
    have s02 := s1.trans s2
    refine ⟨rfl, yes_if ?_⟩
    refine ⟨_, rfl, b1, rfl, ⟨_, sqt (s02 _ _ e1)⟩, fun R hR => ?_⟩
    have nRM : R ≠ Mr := fun e => by rw [e, r3] at hR; cases hR
    refine lc_tup (K := K) (a := b1) (xs := ys) (fun (i : Nat) (H' : Hp) => Same H2 H' ∧ H' R = some (.lst (rwL (fun k i => ((optF A0 k i).length : Int)) j i))) ?_ ?_ ?_ ?_
    · exact ⟨same_new hR _, upd_same⟩
    · rintro i H' _ ⟨s3, _⟩
      exact sqt (s3 _ _ (s02 _ _ e1))
    · rintro i x H3 hx3 ⟨s3, k3⟩
      have hil := (List.getElem?_eq_some_iff.mp hx3).1
      obtain ⟨o, ho⟩ : ∃ o, os[i]? = some o := ⟨_, List.getElem?_eq_getElem (by omega)⟩
      obtain ⟨u, hu, bo, rfl, eo⟩ := hys.at ho
      rw [hx3] at hu
      cases hu
      have hof := optF_at (A := A0) ⟨os, hos, ho⟩
      refine ⟨rfl, yes_if ?_⟩
      refine ⟨_, rfl, bo, _, rfl, .inr (sqt ((s02.trans s3) _ _ eo)), _, k3, big' (by rw [rwL_len]; omega), same_put s3 hR, ?_⟩
      rw [upd_same]
      unfold rwL
      rw [List.range_succ, List.map_append, List.length_map]
      show _ = some (HO.lst (_ ++ [V.int ((optF A0 j i).length : Int)]))
      rw [hof]
    rintro H3 ⟨s3, k3⟩
    rw [hyl] at k3
    have k23 := s3 _ _ r3
    refine ⟨_, k23, big' (by rw [List.length_map]; omega), rs ++ [R], same_put (s2.trans s3) hMr0, by rw [List.length_append, r1]; rfl, ?_, by rw [upd_same, List.map_append]; rfl, fun k r hkr => ?_⟩
    · refine List.nodup_append.mpr ⟨r2, by simp, fun x hx y hy e => ?_⟩
      rw [List.mem_singleton.mp hy] at e
      subst e
      obtain ⟨i, hi⟩ := List.getElem?_of_mem hx
      have hil := (List.getElem?_eq_some_iff.mp hi).1
      obtain ⟨os', hos'⟩ : ∃ os, A0[i]? = some os := ⟨_, List.getElem?_eq_getElem (by omega)⟩
      have := (r4 i _ hi).2.2 os' hos'
      rw [hR] at this
      cases this
    · by_cases hlt : k < rs.length
      · rw [List.getElem?_append_left hlt] at hkr
        obtain ⟨h5, h6, h7⟩ := r4 k r hkr
        exact ⟨h5, h6, fun os' ho' => by rw [upd_ne h5]; exact s3 _ _ (h7 os' ho')⟩
      · have hkl := (List.getElem?_eq_some_iff.mp hkr).1
        rw [List.length_append] at hkl
        have hkl : k < rs.length + 1 := hkl
        have e : k = rs.length := by omega
        subst e
        rw [List.getElem?_append_right (Nat.le_refl _), Nat.sub_self] at hkr
        have e : R = r := Option.some.inj hkr
        subst e
        refine ⟨nRM, s2.free hR, fun os' ho' => ?_⟩
        rw [r1, hos] at ho'
        cases ho'
        rw [upd_ne nRM, r1]
        exact k3
  rintro H2 ⟨rs, s2, r1, r2, r3, r4⟩
  have s02 := s1.trans s2
  -- told
  refine ⟨Nat.le_of_ble_eq_true rfl, fun l3 hl3 => ?_⟩
  obtain ⟨H3, E3, s3, k3⟩ := newH hl3 (.lst [V.non])
  rw [E3]
  have s03 := s02.trans s3
  refine ⟨_, rfl, b0, _, rfl, .inr (sqt (s03 _ _ e0)), l3, _, _, rfl, rfl, k3, by omega, by omega, big (by show 1 * _ ≤ _; omega), fun tl htl => ?_⟩
  have etl : (List.replicate ((zs.length : Nat) : Int).toNat [V.non]).flatten = tlV A0.length fun _ => none := by
    rw [show ((zs.length : Nat) : Int).toNat = A0.length by omega]
    unfold tlV
    refine List.ext_getElem? fun i => ?_
    rw [List.getElem?_map]
    have e : (List.replicate A0.length [V.non]).flatten = List.replicate A0.length V.non := by
      induction A0.length with
      | zero => rfl
      | succ n ih => rw [List.replicate_succ, List.flatten_cons, ih, List.replicate_succ]; rfl
    rw [e, List.getElem?_replicate]
    by_cases hi : i < A0.length
    · rw [if_pos hi, List.getElem?_range hi]
      rfl
    · rw [if_neg hi, List.getElem?_eq_none (by rw [List.length_range]; omega)]
      rfl
  rw [etl]
  obtain ⟨H4, E4, s4, k4⟩ := newH htl (.lst (tlV A0.length fun _ => none))
  rw [E4]
  have s24 := s3.trans s4
  have s04 := s02.trans s24
  -- found
  refine ⟨_, rfl, hp, rfl, ⟨_, sqt (s04 _ _ eh)⟩, fun D hD => ?_⟩
  refine dc_tup (K := K) (a := hp) (xs := hm.map V.int) (fun (j : Nat) (H' : Hp) => ∃ fs : Fs, Same H4 H' ∧ H' D = some (.dK (encP fs)) ∧ (fs.map (·.1)).Nodup ∧ look fs = fun x => if x ∈ hm.take j then some 0 else none) ?_ ?_ ?_ ?_
  · exact ⟨[], same_new hD _, upd_same, List.nodup_nil, funext fun x => (if_neg (by rw [List.take_zero]; exact fun h => nomatch h)).symm⟩
  · rintro j H' _ ⟨fs, s5, _⟩
    exact sqt (s5 _ _ (s04 _ _ eh))
  · rintro j x H5 hx ⟨fs, s5, k5, hnd, hlk⟩
    have hjl := (List.getElem?_eq_some_iff.mp hx).1
    rw [List.length_map] at hjl
    rw [List.getElem?_map] at hx
    obtain ⟨c, hc, rfl⟩ := Option.map_eq_some_iff.mp hx
    have hfl : fs.length ≤ A0.length := by
      have := nd_lenN A0.length (fs.map (·.1)) hnd fun x hx => by
        obtain ⟨v, hv⟩ := look_key.mpr hx
        rw [hlk] at hv
        have hv : (if x ∈ hm.take j then some (0 : Int) else none) = some v := hv
        by_cases hm' : x ∈ hm.take j
        · exact hhm x (List.mem_of_mem_take hm')
        · rw [if_neg hm'] at hv
          cases hv
      rw [List.length_map] at this
      exact this
    refine ⟨rfl, yes_if ?_⟩
    refine ⟨_, rfl, encP fs, Sum.inl c, rfl, k5, big' (by unfold encP; rw [List.length_map]; omega), putP fs c 0, same_put s5 hD, ?_, put_nd hnd c 0, ?_⟩
    · rw [upd_same, put_enc]
    · rw [look_put hnd, hlk]
      funext x
      by_cases e : x = c
      · rw [e, setT_same, if_pos ((foldK_take hc _).mpr (.inr rfl))]
      · rw [setT_ne e]
        by_cases hx : x ∈ hm.take j
        · rw [if_pos hx, if_pos ((foldK_take hc _).mpr (.inl hx))]
        · rw [if_neg hx, if_neg fun h => ((foldK_take hc _).mp h).elim hx e]
  rintro H5 ⟨fs, s5, k5, hnd, hlk⟩
  rw [List.length_map, List.take_length] at hlk
  have s25 := s24.trans s5
  have nrs : ∀ r ∈ rs, H1 r = none ∧ r ≠ Mr ∧ r ≠ tl := fun r hr => by
    obtain ⟨k, hk⟩ := List.getElem?_of_mem hr
    have hkl := (List.getElem?_eq_some_iff.mp hk).1
    obtain ⟨os, hos⟩ : ∃ os, A0[k]? = some os := ⟨_, List.getElem?_eq_getElem (by omega)⟩
    obtain ⟨h5, h6, h7⟩ := r4 k r hk
    refine ⟨h6, h5, fun e => ?_⟩
    have := s3 _ _ (h7 os hos)
    rw [e, htl] at this
    cases this
  have hDA : DjA H1 Mr tl D rs A0 := ⟨by omega, r2, nrs, (fun e => by have := s3 _ _ r3; rw [← e, htl] at this; cases this), (s2.trans s3).free htl, ((s2.trans s3).trans s4).free hD⟩
  have hDH : DjH H1 H5 Mr tl D rs A0 (fun _ => none) (fun k i => mis (fun _ => none) (optF A0 k i)) fs := ⟨s2.trans s25, s25 _ _ r3, fun k r os hk ho => by
    rw [s25 _ _ ((r4 k r hk).2.2 os ho)]
    congr 2
    exact rwL_ext fun i _ => (mis_start _).symm, s5 _ _ k4, k5⟩
  have hDj : Dj A0 (cstF gn) hm (fun _ => none) (look fs) [] 0 fun _ _ => True := by
    rw [hlk]
    exact dj_start hG hhm
  refine ⟨fun (n : Nat) (σ : L2.St) (H' : Hp) => ∃ (T' : Tl) (O : List Int) (c0 : Int) (fs : Fs) (y9 y10 y12 y13 y14 : Option V), σ = [some (.ref b0), some (.ref hp), some (.ref kg), some (.ref L), some (.ref Mr), none, none, some (.ref tl), some (.ref D), y9, y10, none, y12, y13, y14] ∧ n + O.length = A0.length ∧ DjH H1 H' Mr tl D rs A0 T' (fun k i => mis T' (optF A0 k i)) fs ∧ (fs.map (·.1)).Nodup ∧ Dj A0 (cstF gn) hm T' (look fs) O c0 (fun _ _ => True), ⟨A0.length, _, [], 0, fs, none, none, none, none, none, rfl, Nat.add_zero _, hDH, hnd, hDj⟩, ?_⟩
  rintro n σ H6 ⟨T', O, c0, fs, y9, y10, y12, y13, y14, rfl, hn, hH, hnd, hS⟩
  refine ⟨_, rfl, !(encP fs).isEmpty, .inr (.inr ⟨_, hH.dd, rfl⟩), ?_⟩
  cases fs with
  | nil =>
    refine ifF rfl ?_
    refine ⟨_, rfl, tl, _, rfl, .inl ⟨sqd hH.tl, fun t ht => ?_⟩⟩
    exact q t T' O _ ((s1.trans hH.sm).trans (same_new ht _)) upd_same (hS.end_ fun x => rfl)
  | cons p0 fr =>
  generalize hfs : p0 :: fr = fs at *
  have hp0 : look fs p0.1 = some p0.2 := look_of hnd (by rw [← hfs]; exact List.mem_cons_self)
  have hne : 0 < fs.length := by rw [← hfs]; exact Nat.succ_pos _
  have hfl : fs.length ≤ A0.length := by
    have := nd_lenN A0.length (fs.map (·.1)) hnd fun x hx => by
      obtain ⟨v, hv⟩ := look_key.mpr hx
      exact (hS.fn x v hv).2.2
    rw [List.length_map] at this
    exact this
  have hn1 : 0 < n := by
    have hf := hS.fn _ _ hp0
    have hno : p0.1 ∉ O := fun h => by
      obtain ⟨v, hv⟩ := hS.has _ h
      rw [hf.2.1] at hv
      cases hv
    have := nd_lenN A0.length (p0.1 :: O) (List.nodup_cons.mpr ⟨hno, hS.nd⟩) fun x hx => by
        rcases List.mem_cons.mp hx with rfl | hx
        · exact hf.2.2
        · exact hS.inn x hx
    rw [List.length_cons] at this
    omega
  refine ifT (by rw [← hfs] <;> rfl) ?_
  refine ⟨fun σ H' => ∃ (T' : Tl) (O' : List Int) (c0 : Int) (fs : Fs) (y9 y10 y12 y13 y14 : Option V), σ = [some (.ref b0), some (.ref hp), some (.ref kg), some (.ref L), some (.ref Mr), none, none, some (.ref tl), some (.ref D), y9, y10, none, y12, y13, y14] ∧ O'.length = O.length + 1 ∧ DjH H1 H' Mr tl D rs A0 T' (fun k i => mis T' (optF A0 k i)) fs ∧ (fs.map (·.1)).Nodup ∧ Dj A0 (cstF gn) hm T' (look fs) O' c0 (fun _ _ => True), ?_, ?_⟩
  · rintro σ' H' ⟨T', O', c0, fs, y9, y10, y12, y13, y14, e, h1, h2⟩
    exact ⟨n - 1, by omega, T', O', c0, fs, y9, y10, y12, y13, y14, e, by omega, h2⟩
  -- the least one
  refine ⟨D, .dK (encP fs), hH.dd, trivial, fun od => ?_⟩
  refine ⟨_, rfl, D, od, rfl, .inl ⟨encP fs, upd_same, fun LL hLL => ?_⟩⟩
  have nLD : LL ≠ D := fun z => by
    rw [z, upd_same] at hLL
    cases hLL
  have hLL6 : H6 LL = none := by
    rw [upd_ne nLD] at hLL
    exact hLL
  have hel : (encP fs).length = fs.length := by unfold encP; rw [List.length_map]
  refine lc_it walk_keys (fun (i : Nat) (H' : Hp) => H' D = some (.frz od (.dK (encP fs))) ∧ (∀ b o, b ≠ D → H6 b = some o → H' b = some o) ∧ ∃ ts : List Addr, H' LL = some (.lst (ts.map V.ref)) ∧ ts.length = i ∧ ∀ (j : Nat) t p, ts[j]? = some t → fs[j]? = some p → H' t = some (.tup [.int p.2, .int p.1])) ?_ ?_ ?_ ?_
  · refine ⟨by rw [upd_ne nLD.symm, upd_same], fun b o ne e => ?_, [], upd_same, rfl, fun j t p h => by simp at h⟩
    rw [upd_ne (fun z => by rw [z, hLL6] at e; cases e), upd_ne ne]
    exact e
  · rintro i H' _ ⟨e4, _⟩
    exact e4
  · rintro i x H7 H8 hi ⟨e7, hk7, ts, k7, htl', hts⟩ ⟨rfl, k, u, hku, rfl⟩
    unfold encP at hku
    rw [List.getElem?_map] at hku
    obtain ⟨p, hp, hpe⟩ := Option.map_eq_some_iff.mp hku
    cases hpe
    have hlp := look_of hnd (List.mem_of_getElem? hp)
    refine ⟨rfl, yes_if ?_⟩
    refine ⟨_, rfl, _, rfl, D, V.int p.2, rfl, .inl ⟨encP fs, Sum.inl p.1, .inr ⟨od, e7⟩, rfl, by rw [val_enc, hlp]; rfl⟩, ?_⟩
    refine ⟨_, rfl, Nat.le_of_ble_eq_true rfl, fun t ht => ?_⟩
    obtain ⟨H9, E9, s9, k9⟩ := newH ht (.tup [V.int p.2, V.int p.1])
    have E9' : upd H8 t (.tup [V.int p.2, kV (Sum.inl p.1)]) = H9 := E9
    rw [E9']
    have ntL : t ≠ LL := fun e => by rw [e, k7] at ht; cases ht
    refine ⟨_, s9 _ _ k7, big' (by rw [List.length_map]; omega), by rw [upd_ne nLD.symm]; exact s9 _ _ e7, fun b o ne e => ?_, ts ++ [t], by rw [upd_same, List.map_append]; rfl, by rw [List.length_append, htl']; rfl, fun j t' p' h1 h2 => ?_⟩
    · rw [upd_ne (fun z => by rw [z, hLL6] at e; cases e)]
      exact s9 _ _ (hk7 b o ne e)
    · by_cases hj : j < ts.length
      · rw [List.getElem?_append_left hj] at h1
        have h3 := hts j t' p' h1 h2
        rw [upd_ne (fun z => by rw [z, k7] at h3; cases h3)]
        exact s9 _ _ h3
      · have hjl := (List.getElem?_eq_some_iff.mp h1).1
        rw [List.length_append] at hjl
        have hjl : j < ts.length + 1 := hjl
        have e : j = i := by omega
        subst e
        rw [List.getElem?_append_right (by omega), htl', Nat.sub_self] at h1
        have e : t = t' := Option.some.inj h1
        subst e
        rw [hp] at h2
        cases h2
        rw [upd_ne ntL]
        exact k9
  rintro H7 ⟨e7, hk7, ts, k7, htl', hts⟩
  rw [hel] at htl'
  refine ⟨LL, ts, fs.map fun p => (p.2, p.1), rfl, sqd k7, by rw [List.length_map]; exact htl', by rw [List.length_map]; exact hne, fun i t p h1 h2 => ?_, fun i t p h1 h2 hmin => ?_⟩
  · rw [List.getElem?_map] at h2
    obtain ⟨p', hp', rfl⟩ := Option.map_eq_some_iff.mp h2
    exact sqt (hts i t p' h1 hp')
  rw [List.getElem?_map] at h2
  obtain ⟨pa, hpa, rfl⟩ := Option.map_eq_some_iff.mp h2
  obtain ⟨a, wc⟩ := pa
  have kt7 := hts i t _ h1 hpa
  have hFa : look fs a = some wc := look_of hnd (List.mem_of_getElem? hpa)
  have hleast : ∀ x v, look fs x = some v → wc ≤ v := fun x v hx => by
    have := of_decide_eq_false (hmin (v, x) (List.mem_map.mpr ⟨(x, v), look_mem hx, rfl⟩))
    have : ¬ (v < wc ∨ (v = wc ∧ x < a)) := this
    omega
  obtain ⟨_, hTa, ha0, ha1⟩ := hS.fn a wc hFa
  refine ⟨t, _, rfl, sqt kt7, rfl, _, _, rfl, _, _, rfl, rfl, e7, ?_⟩
  have hH8 := hH.thaw hDA hk7
  generalize upd H7 D (.dK (encP fs)) = H8 at hH8 ⊢
  -- it is told
  refine ⟨_, rfl, _, rfl, D, encP fs, Sum.inl a, rfl, hH8.dd, rfl, by rw [val_enc, hFa]; rfl, ?_⟩
  rw [del_enc]
  have hH9 := hH8.setD hDA (delP fs a)
  generalize upd H8 D (.dK (encP (delP fs a))) = H9 at hH9 ⊢
  have hnd9 := del_nd hnd a
  refine ⟨_, rfl, _, rfl, _, rfl, tl, _, _, _, rfl, rfl, hH9.tl, ixN_in ha0 (by rw [tlV_len]; omega), ?_⟩
  obtain ⟨a', rfl, ha'⟩ := nat_of ha0 ha1
  rw [Int.toNat_natCast, show V.int wc = ovV (some wc) from rfl, tlV_set ha']
  have hH10 := hH9.setT hDA (setT T' (a' : Int) (some wc))
  generalize upd H9 tl (.lst (tlV A0.length (setT T' (a' : Int) (some wc)))) = H10 at hH10 ⊢
  have hS10 := hS.take hFa hleast
  rw [← look_del hnd] at hS10
  have hTa2 : setT T' (a' : Int) (some wc) (a' : Int) = some wc := setT_same
  have hmis : ∀ k i o, OptAt A0 k i o → mis T' (optF A0 k i) = mis (setT T' (a' : Int) (some wc)) o + if (k, i) ∈ (Lf a').drop 0 then 1 else 0 := fun k i o ho => by
    obtain ⟨g, _⟩ := ho.good hG
    have hndo : o.Nodup := g.asc.imp fun h => by omega
    rw [optF_at ho, mis_set hTa hndo, List.drop_zero]
    by_cases hm : (a' : Int) ∈ o
    · rw [if_pos hm, if_pos ((hlf.mem a' k i).mpr ⟨o, ho, hm⟩)]
      omega
    · rw [if_neg hm, if_neg fun h => hm (by
        obtain ⟨o', ho', hm'⟩ := (hlf.mem a' k i).mp h
        cases ho'.uniq ho
        exact hm')]
      omega
  have hS11 : Dj A0 (cstF gn) hm (setT T' (a' : Int) (some wc)) (look (delP fs (a' : Int))) (O ++ [(a' : Int)]) wc fun k i => (k, i) ∉ (Lf a').drop 0 := hS10.imp fun k i o ho h o' ho' hm => h (by
    rw [List.drop_zero]
    exact (hlf.mem a' k i).mpr ⟨o', ho', hm⟩)
  obtain ⟨as, a1, a2, a3, a4⟩ := hld.same hH10.sm
  obtain ⟨la, hla⟩ : ∃ l, as[a']? = some l := ⟨_, List.getElem?_eq_getElem (by omega)⟩
  obtain ⟨_, hla0, pts, kla, hpts⟩ := a4 a' la hla
  obtain ⟨as1, b1', b2, b3, b4⟩ := id hld
  have hsame1 : as1 = as := by
    have := hH10.sm _ _ b3
    rw [a3] at this
    have h := HO.lst.inj (Option.some.inj this)
    exact (List.map_inj_right (fun x y h => V.ref.inj h)).mp h.symm
  subst hsame1
  obtain ⟨_, _, pts1, kla1, hpts1⟩ := b4 a' la hla
  have hpp : pts1 = pts := by
    have := hH10.sm _ _ kla1
    rw [kla] at this
    exact (HO.lst.inj (Option.some.inj this)).symm
  subst hpp
  generalize setT T' (a' : Int) (some wc) = T2 at *
  generalize hfs9 : delP fs (a' : Int) = fs9 at *
  generalize hm9 : (fun k i => mis T' (optF A0 k i)) = m9 at *
  have hmis9 : ∀ k i o, OptAt A0 k i o → m9 k i = mis T2 o + if (k, i) ∈ (Lf a').drop 0 then 1 else 0 := fun k i o ho => by rw [← hm9]; exact hmis k i o ho
  refine ⟨_, rfl, _, rfl, L, _, _, _, rfl, rfl, sqd a3, atI_nat (show (as1.map V.ref)[a']? = some (V.ref la) by rw [List.getElem?_map, hla]; rfl), la, rfl, ⟨_, sqd kla⟩, ?_⟩
  refine for_list (K := K) (a := la) (xs := pts1) (fun (j : Nat) (σ : L2.St) (H' : Hp) => ∃ (m : Nat → Nat → Int) (fs : Fs) (y12 y13 y14 : Option V), σ = [some (.ref b0), some (.ref hp), some (.ref kg), some (.ref L), some (.ref Mr), none, none, some (.ref tl), some (.ref D), some (.int (a' : Int)), some (.int wc), none, y12, y13, y14] ∧ DjH H1 H' Mr tl D rs A0 T2 m fs ∧ (fs.map (·.1)).Nodup ∧ Dj A0 (cstF gn) hm T2 (look fs) (O ++ [(a' : Int)]) wc (fun k i => (k, i) ∉ (Lf a').drop j) ∧ ∀ k i o, OptAt A0 k i o → m k i = mis T2 o + if (k, i) ∈ (Lf a').drop j then 1 else 0) ?_ ?_ ?_ ?_
  · exact ⟨m9, fs9, _, _, _, rfl, hH10, hnd9, hS11, hmis9⟩
  · rintro j σ H' _ ⟨m, fs, y12, y13, y14, rfl, hH', _⟩
    exact sqd (hH'.sm _ _ kla1)
  · rintro j x σ H11 hx ⟨m, fs, y12, y13, y14, rfl, hH11, hndf, hS', hm⟩
    have hjl := (List.getElem?_eq_some_iff.mp hx).1
    have hpl := hpts1.1
    obtain ⟨⟨k, i⟩, hki⟩ : ∃ p, (Lf a')[j]? = some p := ⟨_, List.getElem?_eq_getElem (by omega)⟩
    obtain ⟨tp, rfl, ktp⟩ := hpts1.2 j _ _ hki hx
    obtain ⟨o, hoA, hao⟩ := (hlf.mem a' k i).mp (List.mem_of_getElem? hki)
    obtain ⟨os, hos, ho⟩ := id hoA
    obtain ⟨hoG, hkA⟩ := hoA.good hG
    have hil := (List.getElem?_eq_some_iff.mp ho).1
    have hdrop : (Lf a').drop j = (k, i) :: (Lf a').drop (j + 1) := by
      have h := (List.getElem?_eq_some_iff.mp hki)
      obtain ⟨p1, q1⟩ := h
      rw [List.drop_eq_getElem_cons p1, q1]
    have hnotin : (k, i) ∉ (Lf a').drop (j + 1) := fun h => by
      have hd := (hlf.nd a').sublist (List.drop_sublist j (Lf a'))
      rw [hdrop] at hd
      exact (List.nodup_cons.mp hd).1 h
    obtain ⟨r, hr⟩ : ∃ r, rs[k]? = some r := ⟨_, List.getElem?_eq_getElem (by have := hDA.len; omega)⟩
    have krow := hH11.row k r os hr hos
    have hmk := hm k i o hoA
    rw [hdrop, if_pos List.mem_cons_self] at hmk
    refine ⟨tp, _, rfl, sqt (hH11.sm _ _ ktp), rfl, _, _, rfl, _, _, rfl, rfl, ?_⟩
    refine ⟨_, rfl, _, rfl, Mr, _, _, _, rfl, rfl, sqd hH11.mr, atI_nat (show (rs.map V.ref)[k]? = some (V.ref r) by rw [List.getElem?_map, hr]; rfl), _, rfl, r, _, i, _, rfl, rfl, sqd krow, rwL_at hil, _, _, rfl, rfl, r, _, _, _, rfl, rfl, krow, ixN_in (by omega) (by rw [rwL_len]; omega), ?_⟩
    rw [Int.toNat_natCast, rwL_set hil]
    have hH12 := hH11.setR hDA (i := i) hr hos (m k i - 1)
    generalize upd H11 r (.lst (rwL (setM m k i (m k i - 1)) k os.length)) = H12 at hH12 ⊢
    have krow2 := hH12.row k r os hr hos
    have hval : setM m k i (m k i - 1) k i = mis T2 o := by
      unfold setM
      rw [if_pos ⟨rfl, rfl⟩, hmk]
      omega
    have hm' : ∀ k' i' o', OptAt A0 k' i' o' → setM m k i (m k i - 1) k' i' = mis T2 o' + if (k', i') ∈ (Lf a').drop (j + 1) then 1 else 0 := fun k' i' o' ho' => by
      by_cases e : k' = k ∧ i' = i
      · obtain ⟨rfl, rfl⟩ := e
        cases ho'.uniq hoA
        rw [hval, if_neg hnotin]
        omega
      · have e1 : setM m k i (m k i - 1) k' i' = m k' i' := by
          unfold setM
          rw [if_neg e]
        rw [e1, hm k' i' o' ho', hdrop]
        have e2 : ((k', i') ∈ (k, i) :: (Lf a').drop (j + 1)) ↔ (k', i') ∈ (Lf a').drop (j + 1) := ⟨fun h => by
          rcases List.mem_cons.mp h with h | h
          · exact absurd (Prod.mk.inj h) e
          · exact h, List.mem_cons_of_mem _⟩
        by_cases h3 : (k', i') ∈ (Lf a').drop (j + 1)
        · rw [if_pos h3, if_pos (e2.mpr h3)]
        · rw [if_neg h3, if_neg fun h => h3 (e2.mp h)]
    have hP : ∀ k' i' o', OptAt A0 k' i' o' → (k', i') ∉ (Lf a').drop (j + 1) → (k', i') ∉ (Lf a').drop j ∨ (k' = k ∧ i' = i) := fun k' i' o' _ h => by
      by_cases e : k' = k ∧ i' = i
      · exact .inr e
      · refine .inl fun h2 => ?_
        rw [hdrop] at h2
        rcases List.mem_cons.mp h2 with h2 | h2
        · exact e (Prod.mk.inj h2)
        · exact h h2
    obtain ⟨rr, hrr, hrg, hcn⟩ := hC.at hos hil
    have hat2 := rwL_at (m := setM m k i (m k i - 1)) (k := k) hil
    rw [hval] at hat2
    refine ⟨_, rfl, _, rfl, Mr, _, _, _, rfl, rfl, sqd hH12.mr, atI_nat (show (rs.map V.ref)[k]? = some (V.ref r) by rw [List.getElem?_map, hr]; rfl), _, rfl, r, _, _, _, rfl, rfl, sqd krow2, atI_nat hat2, rfl, _, rfl, ?_⟩
    by_cases hz : mis T2 o = 0
    rotate_left
    · refine ifF (decide_eq_false fun h => hz (V.int.inj h)) (iteF ?_)
      have hex : ∃ s ∈ o, T2 s = none := by
        refine Classical.byContradiction fun hno => hz (mis_zero.mpr fun s hs => ?_)
        cases hT : T2 s with
        | none => exact absurd ⟨s, hs, hT⟩ hno
        | some v => exact ⟨v, rfl⟩
      exact ⟨_, fs, _, _, _, rfl, hH12, hndf, (hS'.skip hoA hcn hao hTa2 (.inl hex)).imp hP, hm'⟩
    refine ifT (decide_eq_true (congrArg V.int hz)) ?_
    have hall := mis_zero.mp hz
    have hatT := atI_nat (tlV_at (D := T2) hkA)
    refine ⟨_, rfl, _, rfl, tl, _, _, _, rfl, rfl, sqd hH12.tl, hatT, rfl, _, rfl, ?_⟩
    cases hTk : T2 (k : Int) with
    | some v => exact ifF rfl ⟨_, fs, _, _, _, rfl, hH12, hndf, (hS'.skip hoA hcn hao hTa2 (.inr (by rw [hTk]; exact fun h => nomatch h))).imp hP, hm'⟩
    | none =>
      refine ifT rfl ?_
      obtain ⟨zg, hzg, br, rfl, ebr⟩ := hws.at hrr
      have s012 := s1.trans hH12.sm
      refine ⟨_, rfl, _, rfl, _, rfl, kg, _, _, _, rfl, rfl, sqt (s012 _ _ ekg), atI_nat hzg, _, rfl, br, _, _, _, rfl, rfl, sqt (s012 _ _ ebr), atI_nat (show (rr.map V.int)[i]? = some (V.int (cstF gn k i)) by rw [List.getElem?_map, hrg]; rfl), _, _, rfl, rfl, ?_⟩
      have hfl2 : fs.length ≤ A0.length := by
        have := nd_lenN A0.length (fs.map (·.1)) hndf fun x hx => by
          obtain ⟨v, hv⟩ := look_key.mpr hx
          exact (hS'.fn x v hv).2.2
        rw [List.length_map] at this
        exact this
      obtain ⟨g, hg⟩ : ∃ g : Int, ((look fs (k : Int)).map V.int).getD (V.int (wc + cstF gn k i)) = V.int g ∧ (g = wc + cstF gn k i ∧ look fs (k : Int) = none ∨ look fs (k : Int) = some g) := by
        cases hl : look fs (k : Int) with
        | none => exact ⟨_, rfl, .inl ⟨rfl, rfl⟩⟩
        | some v => exact ⟨v, rfl, .inr rfl⟩
      refine ⟨_, rfl, _, rfl, D, rfl, .inl ⟨_, .inl hH12.dd⟩, _, rfl, _, rfl, (look fs (k : Int)).map V.int, .inl ⟨encP fs, Sum.inl (k : Int), .inl hH12.dd, rfl, (val_enc _ _).symm⟩, ?_⟩
      refine ⟨wc + cstF gn k i, g, by rw [← hg.1] <;> rfl, ?_⟩
      refine ⟨_, rfl, _, rfl, D, _, rfl, DPut.k (k := Sum.inl (k : Int)) hH12.dd (big' (by unfold encP; rw [List.length_map]; omega)), ?_⟩
      rw [put_enc]
      have hall' : ∀ s ∈ o, s ≠ -1 ∧ ∃ v, T2 s = some v := fun s hs => by
        obtain ⟨v, hv⟩ := hall s hs
        have := hS'.inn s (hS'.dom s v hv)
        exact ⟨by omega, v, hv⟩
      have hfind := hS'.find hkA hoA hcn hao hTa2 hall' hTk (w := if g < wc + cstF gn k i then g else wc + cstF gn k i) (by split <;> omega) (by
        rcases hg.2 with ⟨e, _⟩ | e
        · exact .inl (by split <;> omega)
        · split
          · exact .inr e
          · exact .inl rfl) (fun v hv => by
        rcases hg.2 with ⟨_, e⟩ | e
        · rw [e] at hv
          cases hv
        · rw [e] at hv
          cases hv
          split <;> omega)
      rw [← look_put hndf] at hfind
      exact ⟨_, _, _, _, _, rfl, hH12.setD hDA _, put_nd hndf _ _, hfind.imp hP, hm'⟩
  · rintro σ H11 ⟨m, fs, y12, y13, y14, rfl, hH11, hndf, hS', hm⟩
    have hdl : (Lf a').drop pts1.length = [] := by
      rw [hpts1.1]
      exact List.drop_length
    rw [hdl] at hS' hm
    refine ⟨T2, O ++ [(a' : Int)], wc, fs, _, _, _, _, _, rfl, by rw [List.length_append]; rfl, ⟨hH11.sm, hH11.mr, fun k r os hr ho => ?_, hH11.tl, hH11.dd⟩, hndf, hS'.imp fun k i o _ _ h => nomatch h⟩
    rw [hH11.row k r os hr ho]
    congr 2
    refine rwL_ext fun i hi => ?_
    obtain ⟨o, hoi⟩ : ∃ o, os[i]? = some o := ⟨_, List.getElem?_eq_getElem hi⟩
    have hoA : OptAt A0 k i o := ⟨os, ho, hoi⟩
    rw [hm k i o hoA, optF_at hoA, if_neg (fun h => nomatch h)]
    omega
end
end NL

set_option maxHeartbeats 4000000
namespace NL
open PySem PySem.Spec PyProof.Rows L2
section
variable {P : Program} {w : World} {K : PySem.W.Frag} {mg : Str → Option Value} {base : Heap}
/-! ### _law_long -/
def spLong : Sp := fun vs H Q _ => ∃ d : Addr, vs = [.ref d] ∧ Dr H d ∧ ∀ v A H', Go d H H' → ArIn H' A v → ArG A → 0 < A.length → Q v H'
theorem ok_law_long (T : Txt K mg) : FnOk P w K mg base CX0 2 T.a_law_long T.d_law_long P_law_long spLong := by
  have G_law_take := ok_law_take (P := P) (w := w) (base := base) T
  refine T.F_law_long.ok sc_law_long (fun vs H Q E h => ?_) (fun cdv A outer s H vs Q E hr h => ?_)
  · obtain ⟨d, rfl, _⟩ := h
    rfl
  obtain ⟨d, rfl, hD, q⟩ := h
  refine ⟨_, (pss_cons (ps_set (i := 1) sc_law_long.nd rfl (Or.inl rfl) (pe_op op_add pe_int (pe_call G_law_take (hr.mono (by omega)) (by rfl) T.m_law_take T.F_law_take.kp T.b_law_take .nil pass0 (pa_cons (pv 0) (pa_cons pe_int pa_nil)))))
    (pss_cons (ps_set (i := 2) sc_law_long.nd rfl (Or.inl rfl) (pe_lst pa_nil))
    (pss_cons (ps_for  PassesOwn.never rfl (pi_range1 (by rfl) T.z_range (pa_cons (pe_op op_sub (pv 1) pe_int) pa_nil)) (pg_name (i := 3) sc_law_long.nd rfl (Or.inl rfl))
    (pss_cons (ps_set (i := 4) sc_law_long.nd rfl (Or.inl rfl) (pe_call G_law_take (hr.mono (by omega)) (by rfl) T.m_law_take T.F_law_take.kp T.b_law_take .nil pass0 (pa_cons (pv 0) (pa_cons pe_int pa_nil))))
    (pss_one (ps_expr (pe_bm PySem.F.plainAttrs_list PySem.F.slot_list_append PySem.F.type_list_append mt_append (pv 2) (pa_cons (pe_ix ix_list (pe_lst (pa_cons (pe_tup (pa_cons (pe_tup (pa_cons (pe_op op_add (pv 3) pe_int) pa_nil)) pa_nil)) (pa_cons (pe_tup (pa_cons (pe_tup (pa_cons (pe_op op_add (pv 3) pe_int) pa_nil)) (pa_cons (pe_tup (pa_cons pe_int (pa_cons (pe_op op_add (pv 3) pe_int) pa_nil))) pa_nil))) pa_nil))) (pe_callTy call_int1 (by rfl) T.z_int (by decide +kernel) (pa_cons (pe_and (pe_cmpR op_eq (pv 4) pe_int (nomark _)) (pe_one (pe_cmpR op_gt (pv 3) pe_int (nomark _)))) pa_nil)) (fun _ _ => rfl)) pa_nil))))))
    (pss_one (ps_ret (pe_op op_catA (pe_callTy call_tuple_of (by rfl) T.z_tuple (by decide +kernel) (pa_cons (pv 2) pa_nil)) (pe_tup (pa_cons (pe_tup pa_nil) pa_nil)))))))), ?_⟩
  refine ⟨_, rfl, d, 17, rfl, hD, by decide, fun u H1 g1 u0 u1 => ⟨_, _, rfl, rfl, ?_⟩⟩
  dsimp only
  generalize hn : (30 : Int) + u = n
  have n30 : 30 ≤ n ∧ n ≤ 46 := by omega
  refine ⟨Nat.zero_le _, fun p hp => ?_⟩
  have hpd := new_ne g1.dr hp
  have hp0 := g1.free hp
  obtain ⟨H5, e5, s5, k5⟩ := newH hp (.lst [])
  rw [e5]
  have g15 := g1.trans (.same g1.dr s5)
  refine ⟨_, rfl, _, _, rfl, rfl, _, rfl, by omega, by omega, ?_⟩
  refine for_range (lo := 0) (n := (n - 1).toNat) (fun (j : Nat) (σ : L2.St) (H' : Hp) => ∃ (xs : List V) (A' : Ar) (y3 y4 : Option V), σ = [some (.ref d), some (.int n), some (.ref p), y3, y4] ∧ Go d H H' ∧ H' p = some (.lst xs) ∧ Each (PosIn H') A' xs ∧ A'.length = j ∧ ∀ os ∈ A', PosG n os) ?_ ?_ ?_
  · exact ⟨[], [], _, _, rfl, g15, k5, .nil, rfl, fun os h => nomatch h⟩
  · rintro j σ H7 hj ⟨xs, A', y3, y4, rfl, g7, e7, hxs, hA, hG⟩
    generalize hk : (0 : Int) + (j : Int) = k
    have hk0 : 0 ≤ k ∧ k + 1 < n := by omega
    refine ⟨_, rfl, d, 6, rfl, g7.dr, by decide, fun bk H8 g8 _ _ => ?_⟩
    have e8 := g8.fr p _ hpd e7
    refine ⟨_, rfl, .inl ⟨rfl, _, sqd e8⟩, ?_⟩
    refine ⟨_, rfl, _, _, rfl, rfl, Nat.le_of_ble_eq_true rfl, fun t1 ht1 => ?_⟩
    obtain ⟨Ha, ea, sa, ka⟩ := newH ht1 (.tup [V.int (k + 1)])
    rw [ea]
    refine ⟨Nat.le_of_ble_eq_true rfl, fun t2 ht2 => ?_⟩
    obtain ⟨Hb, eb, sb, kb⟩ := newH ht2 (.tup [V.ref t1])
    rw [eb]
    refine ⟨_, rfl, _, _, rfl, rfl, Nat.le_of_ble_eq_true rfl, fun t3 ht3 => ?_⟩
    obtain ⟨Hc, ec, sc, kc⟩ := newH ht3 (.tup [V.int (k + 1)])
    rw [ec]
    refine ⟨_, rfl, _, _, rfl, rfl, Nat.le_of_ble_eq_true rfl, fun t4 ht4 => ?_⟩
    obtain ⟨Hd, ed, sd, kd⟩ := newH ht4 (.tup [V.int 0, V.int (k + 1)])
    rw [ed]
    refine ⟨Nat.le_of_ble_eq_true rfl, fun t5 ht5 => ?_⟩
    obtain ⟨He, ee, se, ke⟩ := newH ht5 (.tup [V.ref t3, V.ref t4])
    rw [ee]
    refine ⟨Nat.le_of_ble_eq_true rfl, fun l hl => ?_⟩
    obtain ⟨Hf, ef, sf, kf⟩ := newH hl (.lst [V.ref t2, V.ref t5])
    rw [ef]
    have g8f : Same H8 Hf := ((((sa.trans sb).trans sc).trans sd).trans se).trans sf
    have e9 := g8f _ _ e8
    have g7f := (g7.trans g8).trans (.same g8.dr g8f)
    have hxl := hxs.1
    have put : ∀ (z : Int), (z = 0 ∨ (z = 1 ∧ 0 < k)) → rIxL K (V.ref l) (.int z) Hf fun x H1 => rAppend (V.ref p) [x] H1 fun _ H2 => ∃ xs A' y3 y4, ([some (V.ref d), some (V.int n), some (V.ref p), some (.int k), some (.int bk)] : L2.St) = [some (V.ref d), some (V.int n), some (V.ref p), y3, y4] ∧ Go d H H2 ∧ H2 p = some (.lst xs) ∧ Each (PosIn H2) A' xs ∧ A'.length = j + 1 ∧ ∀ os ∈ A', PosG n os := fun z hz => by
      have opt1 : OptG n [k + 1] := ⟨List.cons_ne_nil _ _, Nat.le_of_ble_eq_true rfl, fun s hs => by rw [List.mem_singleton.mp hs]; omega, List.pairwise_singleton _ _⟩
      have mid : ∀ (x : V) (os : Pos'), PosIn Hf os x → PosG n os → rAppend (V.ref p) [x] Hf fun _ H2 => ∃ xs A' y3 y4, ([some (V.ref d), some (V.int n), some (V.ref p), some (.int k), some (.int bk)] : L2.St) = [some (V.ref d), some (V.int n), some (V.ref p), y3, y4] ∧ Go d H H2 ∧ H2 p = some (.lst xs) ∧ Each (PosIn H2) A' xs ∧ A'.length = j + 1 ∧ ∀ os ∈ A', PosG n os := fun x os hx ho => by
        refine ⟨p, _, _, rfl, rfl, e9, big' (by omega), ?_⟩
        have tt : Tp Hf (upd Hf p (.lst (xs ++ [x]))) := tp_put Tp.refl e9
        refine ⟨_, A' ++ [os], _, _, rfl, g7f.put2 hp0 hpd, upd_same, (hxs.mono fun o x => PosIn.tp (((g8.tp g7.dr).trans (Tp.same g8f)).trans tt)).snoc (hx.tp tt), by rw [List.length_append, hA]; rfl, fun o' ho' => ?_⟩
        rcases List.mem_append.mp ho' with h | h
        · exact hG o' h
        · rw [List.mem_singleton.mp h]
          exact ho
      rcases hz with rfl | ⟨rfl, hk1⟩
      · refine ⟨l, _, _, _, rfl, rfl, sqd kf, atI0, mid _ [[k + 1]] ⟨t2, _, rfl, ((((sc.trans sd).trans se).trans sf)) _ _ kb, .cons ⟨t1, rfl, ((((sb.trans sc).trans sd).trans se).trans sf) _ _ ka⟩ .nil⟩ ⟨Nat.le_of_ble_eq_true rfl, fun o ho => by rw [List.mem_singleton.mp ho]; exact opt1⟩⟩
      · refine ⟨l, _, _, _, rfl, rfl, sqd kf, atI1, mid _ [[k + 1], [0, k + 1]] ⟨t5, _, rfl, sf _ _ ke, .cons ⟨t3, rfl, ((sd.trans se).trans sf) _ _ kc⟩ (.cons ⟨t4, rfl, (se.trans sf) _ _ kd⟩ .nil)⟩ ⟨Nat.le_of_ble_eq_true rfl, fun o ho => ?_⟩⟩
        rcases List.mem_cons.mp ho with h | h
        · rw [h]; exact opt1
        · rw [List.mem_singleton.mp h]
          refine ⟨List.cons_ne_nil _ _, Nat.le_of_ble_eq_true rfl, fun s hs => ?_, List.pairwise_pair.mpr (by omega)⟩
          rcases List.mem_cons.mp hs with h | h
          · rw [h]; omega
          · rw [List.mem_singleton.mp h]; omega
    refine ⟨_, rfl, rfl, _, rfl, ?_⟩
    by_cases hb : bk = 1
    · refine ifT (decide_eq_true (by rw [hb])) ?_
      refine ⟨_, rfl, _, _, rfl, rfl, .inr ⟨_, rfl, ?_⟩⟩
      by_cases hkp : 0 < k
      · rw [decide_eq_true hkp]
        exact put 1 (.inr ⟨rfl, hkp⟩)
      · rw [decide_eq_false hkp]
        exact put 0 (.inl rfl)
    · refine ifF (decide_eq_false (fun e => hb (V.int.inj e))) ?_
      exact .inr ⟨_, rfl, put 0 (.inl rfl)⟩
  · rintro σ H7 ⟨xs, A', y3, y4, rfl, g7, e7, hxs, hA, hG⟩
    have hxl := hxs.1
    refine ⟨_, rfl, p, _, rfl, .inl ⟨sqd e7, fun t ht => ?_⟩⟩
    obtain ⟨H8, e8, s8, k8⟩ := newH ht (.tup xs)
    rw [e8]
    refine ⟨Nat.zero_le _, fun t1 ht1 => ?_⟩
    obtain ⟨H9, e9, s9, k9⟩ := newH ht1 (.tup [])
    rw [e9]
    refine ⟨Nat.le_of_ble_eq_true rfl, fun t2 ht2 => ?_⟩
    obtain ⟨Ha, ea, sa, ka⟩ := newH ht2 (.tup [V.ref t1])
    rw [ea]
    refine catA_of ((s9.trans sa) _ _ k8) ka (by rw [List.length_singleton]; omega) fun pc Hb sb eb => ?_
    have s7b := ((s8.trans s9).trans sa).trans sb
    have hn1 : ((A' ++ [([] : Pos')]).length : Int) = n := by
      rw [List.length_append, List.length_singleton, hA]
      omega
    refine q (.ref pc) (A' ++ [[]]) Hb (g7.trans (.same g7.dr s7b)) ⟨pc, _, rfl, eb, (hxs.mono fun o x => PosIn.tp (Tp.same s7b)).snoc ⟨t1, [], rfl, (sa.trans sb) _ _ k9, .nil⟩⟩ ⟨by omega, fun os hos => ?_⟩ (by omega)
    rw [hn1]
    rcases List.mem_append.mp hos with h | h
    · exact hG os h
    · rw [List.mem_singleton.mp h]
      exact ⟨Nat.zero_le _, fun o ho => nomatch ho⟩
end
end NL

set_option maxHeartbeats 4000000
namespace NL
open PySem PySem.Spec PyProof.Rows L2
def spLaw (K : PySem.W.Frag) : Sp := fun vs H Q _ => ∃ (a : Addr) (ns : List Int), vs = [.ref a] ∧ SqL K H a (ns.map V.int) ∧ ns.length ≤ 63 ∧ ∀ H', Q (.bl true) H'
theorem Sol.congr {A : Ar} {c c' : Nat → Nat → Int} {hm : List Int} {T : Tl} {O : List Int} (h : Sol A c hm T O) (e : ∀ k i o, OptAt A k i o → c k i = c' k i) : Sol A c' hm T O := by
  refine ⟨h.nd, h.inn, h.dom, h.nn, h.hom, fun k i o M ho hu => ?_, fun j k w h1 h2 => ?_⟩
  · rw [← e k i o ho]
    exact h.cl k i o M ho hu
  · rcases h.fd j k w h1 h2 with h | ⟨i, o, M, h3, h4, h5⟩
    · exact .inl h
    · exact .inr ⟨i, o, M, h3, by rw [← e k i o h3]; exact h4, h5⟩
theorem ones_flat (n : Nat) : (List.replicate n [V.int 1]).flatten = (List.replicate n (1 : Int)).map V.int := by
  induction n with
  | zero => rfl
  | succ n ih => rw [List.replicate_succ, List.flatten_cons, ih, List.replicate_succ]; rfl
section
variable {P : Program} {w : World} {K : PySem.W.Frag} {mg : Str → Option Value} {base : Heap}
theorem ok_law (T : Txt K mg) : FnOk P w K mg base CX0 8 T.alaw T.dlaw Plaw (spLaw K) := by
  have G_law_draws := ok_law_draws (P := P) (w := w) (base := base) T
  have G_law_take := ok_law_take (P := P) (w := w) (base := base) T
  have G_law_arena := ok_law_arena (P := P) (w := w) (base := base) T
  have G_law_some := ok_law_some (P := P) (w := w) (base := base) T
  have G_law_long := ok_law_long (P := P) (w := w) (base := base) T
  have Gleast_costs := ok_least_costs (P := P) (w := w) (base := base) T
  have G_law_due := ok_law_due (P := P) (w := w) (base := base) T
  have G_law_come_ranks := ok_law_come_ranks (P := P) (w := w) (base := base) T
  have G_law_told := ok_law_told (P := P) (w := w) (base := base) T
  refine T.Flaw.ok sclaw (fun vs H Q E h => ?_) (fun cdv A outer s H vs Q E hr h => ?_)
  · obtain ⟨a, ns, rfl, _⟩ := h
    rfl
  obtain ⟨a, ns, rfl, hS, hl, q⟩ := h
  refine ⟨_, (pss_cons (ps_set (i := 1) sclaw.nd rfl (Or.inr rfl) (pe_call G_law_draws (hr.mono (by omega)) (by rfl) T.m_law_draws T.F_law_draws.kp T.b_law_draws .nil pass0 (pa_cons (pv 0) (pa_cons pe_int pa_nil))))
    (pss_cons (ps_set (i := 2) sclaw.nd rfl (Or.inl rfl) (pe_call G_law_arena (hr.mono (by omega)) (by rfl) T.m_law_arena T.F_law_arena.kp T.b_law_arena .nil pass0 (pa_cons (pv 1) (pa_cons (pe_ix ix_list (pe_lst (pa_cons pe_int (pa_cons pe_int (pa_cons pe_int (pa_cons pe_int (pa_cons pe_int pa_nil)))))) (pe_call G_law_take (hr.mono (by omega)) (by rfl) T.m_law_take T.F_law_take.kp T.b_law_take .nil pass0 (pa_cons (pv 1) (pa_cons pe_int pa_nil))) (fun _ _ => rfl)) pa_nil))))
    (pss_cons (ps_set (i := 3) sclaw.nd rfl (Or.inl rfl) (pe_call G_law_some (hr.mono (by omega)) (by rfl) T.m_law_some T.F_law_some.kp T.b_law_some .nil pass0 (pa_cons (pv 1) (pa_cons (pe_callB call_len_seq (by rfl) T.z_len PySem.boot_len (pa_cons (pv 2) pa_nil)) (pa_cons (pe_ix ix_list (pe_lst (pa_cons pe_int (pa_cons pe_int (pa_cons pe_int pa_nil)))) (pe_call G_law_take (hr.mono (by omega)) (by rfl) T.m_law_take T.F_law_take.kp T.b_law_take .nil pass0 (pa_cons (pv 1) (pa_cons pe_int pa_nil))) (fun _ _ => rfl)) pa_nil)))))
    (C8.pss_cut (ps_if (pt_cmpR op_eq (pe_call G_law_take (hr.mono (by omega)) (by rfl) T.m_law_take T.F_law_take.kp T.b_law_take .nil pass0 (pa_cons (pv 1) (pa_cons pe_int pa_nil))) pe_int (nomark _))
    (pss_cons (ps_set (i := 2) sclaw.nd rfl (Or.inl rfl) (pe_call G_law_long (hr.mono (by omega)) (by rfl) T.m_law_long T.F_law_long.kp T.b_law_long .nil pass0 (pa_cons (pv 1) pa_nil)))
    (pss_one (ps_set (i := 3) sclaw.nd rfl (Or.inl rfl) (pe_tup (pa_cons (pe_op op_sub (pe_callB call_len_seq (by rfl) T.z_len PySem.boot_len (pa_cons (pv 2) pa_nil)) pe_int) pa_nil)))))
    pss_nil)
    (pss_cons (ps_set (i := 4) sclaw.nd rfl (Or.inr rfl) (pe_ix ix_list (pe_lst (pa_cons pe_int (pa_cons pe_int (pa_cons pe_int pa_nil)))) (pe_call G_law_take (hr.mono (by omega)) (by rfl) T.m_law_take T.F_law_take.kp T.b_law_take .nil pass0 (pa_cons (pv 1) (pa_cons pe_int pa_nil))) (fun _ _ => rfl)))
    (pss_cons (ps_set (i := 5) sclaw.nd rfl (Or.inl rfl) (pe_lst pa_nil))
    (pss_cons (ps_set (i := 6) sclaw.nd rfl (Or.inl rfl) (pe_lst pa_nil))
    (pss_cons (ps_for  PassesOwn.never rfl (pi_tup (pv 2)) (pg_name (i := 7) sclaw.nd rfl (Or.inl rfl))
    (pss_cons (ps_expr (pe_bm PySem.F.plainAttrs_list PySem.F.slot_list_append PySem.F.type_list_append mt_append (pv 5) (pa_cons (pe_callTy call_tuple_of (by rfl) T.z_tuple (by decide +kernel) (pa_cons (pe_lc (own := [("option", 8)]) (g := (gName 8)) (tt := tYes) rfl sclaw.nd (pi_tup (pv 7)) (blkOk_by (N := Nlaw) (sc := defScope slaw) (by decide +kernel)) (fun _ _ _ _ _ => (pg_name (i := 8) sclaw.nd rfl (Or.inl rfl))) (fun _ _ _ _ _ => pts_nil) (fun _ _ _ _ _ => (pe_call G_law_take (hr.mono (by omega)) (by rfl) T.m_law_take T.F_law_take.kp T.b_law_take .nil pass0 (pa_cons (pv 1) (pa_cons (pv 4) pa_nil))))) pa_nil)) pa_nil)))
    (pss_one (ps_expr (pe_bm PySem.F.plainAttrs_list PySem.F.slot_list_append PySem.F.type_list_append mt_append (pv 6) (pa_cons (pe_op op_repZ (pe_tup (pa_cons pe_int pa_nil)) (pe_callB call_len_seq (by rfl) T.z_len PySem.boot_len (pa_cons (pv 7) pa_nil))) pa_nil))))))
    (pss_cons (ps_if (pt_not (pt_val (pe_call G_law_told (hr.mono (by omega)) (by rfl) T.m_law_told T.F_law_told.kp T.b_law_told .nil pass0 (pa_cons (pe_call Gleast_costs (hr.mono (by omega)) (by rfl) T.mleast_costs T.Fleast_costs.kp T.bleast_costs .nil pass0 (pa_cons (pv 2) (pa_cons (pv 3) (pa_cons (pe_callTy call_tuple_of (by rfl) T.z_tuple (by decide +kernel) (pa_cons (pv 5) pa_nil)) pa_nil)))) (pa_cons (pe_call G_law_due (hr.mono (by omega)) (by rfl) T.m_law_due T.F_law_due.kp T.b_law_due .nil pass0 (pa_cons (pv 2) (pa_cons (pv 3) (pa_cons (pv 5) pa_nil)))) pa_nil)))))
    (pss_one (ps_ret pe_bl))
    pss_nil)
    (pss_one (ps_ret (pe_call G_law_told (hr.mono (by omega)) (by rfl) T.m_law_told T.F_law_told.kp T.b_law_told .nil pass0 (pa_cons (pe_call Gleast_costs (hr.mono (by omega)) (by rfl) T.mleast_costs T.Fleast_costs.kp T.bleast_costs .nil pass0 (pa_cons (pv 2) (pa_cons (pv 3) (pa_cons (pe_callTy call_tuple_of (by rfl) T.z_tuple (by decide +kernel) (pa_cons (pv 6) pa_nil)) pa_nil)))) (pa_cons (pe_call G_law_come_ranks (hr.mono (by omega)) (by rfl) T.m_law_come_ranks T.F_law_come_ranks.kp T.b_law_come_ranks .nil pass0 (pa_cons (pv 2) (pa_cons (pv 3) pa_nil))) pa_nil)))))))))))))), ?_⟩
  refine ⟨_, rfl, a, ns, 700, rfl, hS, hl, by decide, by decide, fun d H1 s1 hd D1 => ?_⟩
  -- the arena
  refine ⟨_, rfl, Nat.le_of_ble_eq_true rfl, fun l2 hl2 => ?_⟩
  obtain ⟨H2, E2, s2, k2⟩ := newH hl2 (.lst ([3, 5, 7, 7, 20].map V.int))
  have E2' : upd H1 l2 (.lst [.int 3, .int 5, .int 7, .int 7, .int 20]) = H2 := E2
  rw [E2']
  have g2 := Go.same D1 s2
  refine ⟨_, rfl, d, 5, rfl, g2.dr, by decide, fun u3 H3 g3 a3 b3 => ?_⟩
  obtain ⟨m3, hm3, hmm3⟩ := atI_map (f := V.int) (xs := ([3, 5, 7, 7, 20] : List Int)) a3 b3
  have hm20 : 0 ≤ m3 ∧ m3 ≤ 20 := by
    simp only [List.mem_cons, List.not_mem_nil, or_false] at hmm3
    omega
  refine ⟨l2, _, _, _, rfl, rfl, sqd (g3.fr l2 _ (new_ne D1 hl2) k2), hm3, d, m3, rfl, g3.dr, hm20.1, by omega, fun v A0 H4 g4 hA hG => ?_⟩
  have g24 := (g2.trans g3).trans g4
  obtain ⟨b0, zs, rfl, e0, hzs⟩ := id hA
  have hzl := hzs.1
  have h400 := hG.1
  -- home
  refine ⟨_, rfl, _, rfl, b0, _, rfl, .inr (sqt e0), Nat.le_of_ble_eq_true rfl, fun l5 hl5 => ?_⟩
  obtain ⟨H5, E5, s5, k5⟩ := newH hl5 (.lst ([1, 2, 4].map V.int))
  have E5' : upd H4 l5 (.lst [.int 1, .int 2, .int 4]) = H5 := E5
  rw [E5']
  have g5 := Go.same g4.dr s5
  refine ⟨_, rfl, d, 3, rfl, g5.dr, by decide, fun u6 H6 g6 a6 b6 => ?_⟩
  obtain ⟨m6, hm6, _⟩ := atI_map (f := V.int) (xs := ([1, 2, 4] : List Int)) a6 b6
  refine ⟨l5, _, _, _, rfl, rfl, sqd (g6.fr l5 _ (new_ne g4.dr hl5) k5), hm6, d, _, m6, rfl, g6.dr, by omega, by omega, fun hp hm H7 g7 khp hhm => ?_⟩
  have g57 := (g5.trans g6).trans g7
  have g27 := g24.trans g57
  -- or a long arena
  refine ⟨fun σ H' => ∃ (v : V) (A : Ar) (hp : Addr) (hm : List Int), σ = [some (.ref a), some (.ref d), some v, some (.ref hp), none, none, none, none, none] ∧ Dr H' d ∧ ArIn H' A v ∧ ArG A ∧ H' hp = some (.tup (hm.map V.int)) ∧ ∀ x ∈ hm, 0 ≤ x ∧ x < (A.length : Int), ?_, ?_⟩
  · refine ⟨_, rfl, d, 12, rfl, g7.dr, by decide, fun u8 H8 g8 _ _ => ⟨rfl, _, rfl, ?_⟩⟩
    refine ite2 (fun z => ?_) (fun z => ?_)
    · refine ⟨_, rfl, d, rfl, g8.dr, fun v2 A2 H9 g9 hA2 hG2 hpos => ?_⟩
      obtain ⟨b2, zs2, rfl, e2, hzs2⟩ := id hA2
      have hzl2 := hzs2.1
      refine ⟨_, rfl, b2, _, rfl, .inr (sqt e2), _, _, rfl, rfl, Nat.le_of_ble_eq_true rfl, fun t ht => ?_⟩
      obtain ⟨Ha, Ea, sa, ka⟩ := newH ht (.tup (([((zs2.length : Nat) : Int) - 1] : List Int).map V.int))
      have Ea' : upd H9 t (.tup [V.int (((zs2.length : Nat) : Int) - 1)]) = Ha := Ea
      rw [Ea']
      refine ⟨.ref b2, A2, t, [((zs2.length : Nat) : Int) - 1], rfl, (Go.same g9.dr sa).dr, hA2.tp (Tp.same sa), hG2, ka, fun x hx => ?_⟩
      rw [List.mem_singleton.mp hx]
      omega
    · exact ⟨.ref b0, A0, hp, hm, rfl, g8.dr, hA.tp ((g57.trans g8).tp g4.dr), hG, g8.tp g7.dr _ _ khp, fun x hx => by have := hhm x hx; omega⟩
  clear hA hG e0 hzs hzl h400 khp hhm
  rintro σ H8 ⟨v, A0, hp, hm, rfl, D8, hA, hG, khp, hhm⟩
  obtain ⟨b0, zs, rfl, e0, hzs⟩ := id hA
  have hzl := hzs.1
  have h400 := hG.1
  refine ⟨Nat.le_of_ble_eq_true rfl, fun l9 hl9 => ?_⟩
  obtain ⟨H9, E9, s9, k9⟩ := newH hl9 (.lst ([10, 2, 1001].map V.int))
  have E9' : upd H8 l9 (.lst [.int 10, .int 2, .int 1001]) = H9 := E9
  rw [E9']
  have g9 := Go.same D8 s9
  refine ⟨_, rfl, d, 3, rfl, g9.dr, by decide, fun u10 H10 g10 a10 b10 => ?_⟩
  obtain ⟨wd, hwd, hwdm⟩ := atI_map (f := V.int) (xs := ([10, 2, 1001] : List Int)) a10 b10
  have hwd0 : 0 < wd := by
    simp only [List.mem_cons, List.not_mem_nil, or_false] at hwdm
    omega
  refine ⟨l9, _, _, _, rfl, rfl, sqd (g10.fr l9 _ (new_ne D8 hl9) k9), hwd, ?_⟩
  have g810 := g9.trans g10
  -- the costs
  refine ⟨Nat.zero_le _, fun cl hcl => ?_⟩
  obtain ⟨H11, E11, s11, k11⟩ := newH hcl (.lst [])
  rw [E11]
  refine ⟨Nat.zero_le _, fun ol hol => ?_⟩
  obtain ⟨H12, E12, s12, k12⟩ := newH hol (.lst [])
  rw [E12]
  have nco : cl ≠ ol := fun e => by rw [e] at k11; rw [hol] at k11; cases k11
  have g11 := Go.same g10.dr s11
  have g812 := (g810.trans g11).trans (.same g11.dr s12)
  have ncd := new_ne g10.dr hcl
  have nod := new_ne g11.dr hol
  have hcl8 := g810.free hcl
  have hol8 := (g810.trans g11).free hol
  have e012 := g812.tp D8 _ _ e0
  refine ⟨_, rfl, b0, rfl, ⟨_, sqt e012⟩, ?_⟩
  refine for_tup (K := K) (a := b0) (xs := zs) (fun (j : Nat) (σ : L2.St) (H' : Hp) => ∃ (gn : List (List Int)) (xs ys : List V) (y7 : Option V), σ = [some (.ref a), some (.ref d), some (.ref b0), some (.ref hp), some (.int wd), some (.ref cl), some (.ref ol), y7, none] ∧ Go d H8 H' ∧ H' cl = some (.lst xs) ∧ H' ol = some (.lst ys) ∧ Each (OptIn H') gn xs ∧ Each (OptIn H') ((A0.take j).map fun os => List.replicate os.length (1 : Int)) ys ∧ gn.length = j ∧ (∀ (k : Nat) os r, A0[k]? = some os → gn[k]? = some r → r.length = os.length) ∧ ∀ r ∈ gn, ∀ g ∈ r, (0 : Int) ≤ g) ?_ ?_ ?_ ?_
  · exact ⟨[], [], [], none, rfl, g812, s12 _ _ k11, k12, .nil, .nil, rfl, fun k os r _ h => by simp at h, fun r h => nomatch h⟩
  · rintro j σ H' _ ⟨gn, xs, ys, y7, rfl, g13, _⟩
    exact sqt (g13.tp D8 _ _ e0)
  · rintro j x σ H13 hx ⟨gn, xs, ys, y7, rfl, g13, kc, ko, hxs, hys, hgl, hrow, hnn⟩
    have hjl := (List.getElem?_eq_some_iff.mp hx).1
    have hxl := hxs.1
    have hyl := hys.1
    rw [List.length_map, List.length_take] at hyl
    obtain ⟨os, hos⟩ : ∃ os, A0[j]? = some os := ⟨_, List.getElem?_eq_getElem (by omega)⟩
    obtain ⟨z, hz, b1, ws, rfl, e1, hws⟩ := hzs.at hos
    rw [hx] at hz
    cases hz
    have hwl := hws.1
    have hosG := hG.2 os (List.mem_of_getElem? hos)
    have h12 := hosG.1
    have e113 := g13.tp D8 _ _ e1
    refine ⟨_, rfl, .inl ⟨rfl, _, sqd kc⟩, ?_⟩
    refine ⟨_, rfl, b1, rfl, ⟨_, sqt e113⟩, fun R hR => ?_⟩
    have nRd := new_ne g13.dr hR
    have hR13 : H13 R = none := hR
    refine lc_tup (K := K) (a := b1) (xs := ws) (fun (i : Nat) (H' : Hp) => ∃ es : List Int, Go d H13 H' ∧ H' R = some (.lst (es.map V.int)) ∧ es.length = i ∧ ∀ g ∈ es, (0 : Int) ≤ g) ?_ ?_ ?_ ?_
    · exact ⟨[], .same g13.dr (same_new hR _), upd_same, rfl, fun g h => nomatch h⟩
    · rintro i H' _ ⟨es, g14, _⟩
      exact sqt (g14.tp g13.dr _ _ e113)
    · rintro i x H14 hx14 ⟨es, g14, k14, hes, hes0⟩
      have hil := (List.getElem?_eq_some_iff.mp hx14).1
      refine ⟨rfl, yes_if ?_⟩
      refine ⟨_, rfl, _, rfl, d, wd, rfl, g14.dr, hwd0, fun g H15 g15 ga gb => ?_⟩
      refine ⟨_, g15.fr R _ nRd k14, big' (by rw [List.length_map]; omega), es ++ [g], (g14.trans g15).put2 hR13 nRd, ?_, by rw [List.length_append, hes]; rfl, fun g' hg' => ?_⟩
      · rw [upd_same, List.map_append]
        rfl
      · rcases List.mem_append.mp hg' with h | h
        · exact hes0 g' h
        · rw [List.mem_singleton.mp h]
          exact ga
    rintro H14 ⟨es, g14, k14, hes, hes0⟩
    refine ⟨R, _, rfl, .inl ⟨sqd k14, fun tc htc => ?_⟩⟩
    obtain ⟨H15, E15, s15, k15⟩ := newH htc (.tup (es.map V.int))
    rw [E15]
    have g1315 := g14.trans (.same g14.dr s15)
    have kc15 := g1315.fr cl _ ncd kc
    have ko15 := g1315.fr ol _ nod ko
    refine ⟨cl, xs, _, rfl, rfl, kc15, big' (by omega), ?_⟩
    have g815 := g13.trans g1315
    have g16 : Go d H8 (upd H15 cl (.lst (xs ++ [.ref tc]))) := g815.put2 hcl8 ncd
    have tp16 : Tp H15 (upd H15 cl (.lst (xs ++ [.ref tc]))) := tp_put Tp.refl kc15
    have kc16 : upd H15 cl (.lst (xs ++ [.ref tc])) cl = some (.lst (xs ++ [.ref tc])) := upd_same
    have ko16 : upd H15 cl (.lst (xs ++ [.ref tc])) ol = some (.lst ys) := by rw [upd_ne nco.symm]; exact ko15
    have hxs16 : Each (OptIn (upd H15 cl (.lst (xs ++ [.ref tc])))) (gn ++ [es]) (xs ++ [.ref tc]) := (hxs.mono fun a x => OptIn.tp ((g1315.tp g13.dr).trans tp16)).snoc ⟨tc, rfl, tp16 _ _ k15⟩
    have hys16 := hys.mono fun a x => OptIn.tp (o := a) (v := x) ((g1315.tp g13.dr).trans tp16)
    generalize upd H15 cl (.lst (xs ++ [.ref tc])) = H16 at *
    refine ⟨_, rfl, .inl ⟨rfl, _, sqd ko16⟩, ?_⟩
    refine ⟨Nat.le_of_ble_eq_true rfl, fun t1 ht1 => ?_⟩
    obtain ⟨H17, E17, s17, k17⟩ := newH ht1 (.tup [V.int 1])
    rw [E17]
    have g17 := g16.trans (.same g16.dr s17)
    have fin : ∀ (p : Addr) (H' : Hp), Same H17 H' → H' p = some (.tup ((List.replicate os.length (1 : Int)).map V.int)) → ∃ p2 xs2 y, (V.ref ol : V) = .ref p2 ∧ [V.ref p] = [y] ∧ H' p2 = some (.lst xs2) ∧ xs2.length < sizeLine ∧ (∃ (gn : List (List Int)) (xs ys : List V) (y7 : Option V), [some (.ref a), some (.ref d), some (.ref b0), some (.ref hp), some (.int wd), some (.ref cl), some (.ref ol), some (.ref b1), none] = [some (.ref a), some (.ref d), some (.ref b0), some (.ref hp), some (.int wd), some (.ref cl), some (.ref ol), y7, none] ∧ Go d H8 (upd H' p2 (.lst (xs2 ++ [y]))) ∧ upd H' p2 (.lst (xs2 ++ [y])) cl = some (.lst xs) ∧ upd H' p2 (.lst (xs2 ++ [y])) ol = some (.lst ys) ∧ Each (OptIn (upd H' p2 (.lst (xs2 ++ [y])))) gn xs ∧ Each (OptIn (upd H' p2 (.lst (xs2 ++ [y])))) ((A0.take (j + 1)).map fun os => List.replicate os.length (1 : Int)) ys ∧ gn.length = j + 1 ∧ (∀ (k : Nat) os r, A0[k]? = some os → gn[k]? = some r → r.length = os.length) ∧ ∀ r ∈ gn, ∀ g ∈ r, (0 : Int) ≤ g) := by
      intro p H' s' kp
      have ko' := (s17.trans s') _ _ ko16
      have tpx : Tp H' (upd H' ol (.lst (ys ++ [.ref p]))) := tp_put Tp.refl ko'
      have tpa := (Tp.same (s17.trans s')).trans tpx
      refine ⟨ol, ys, .ref p, rfl, rfl, ko', big' (by omega), gn ++ [es], xs ++ [.ref tc], ys ++ [.ref p], _, rfl, (g17.trans (.same g17.dr s')).put2 hol8 nod, by rw [upd_ne nco]; exact (s17.trans s') _ _ kc16, upd_same, hxs16.mono fun a x => OptIn.tp tpa, ?_, by rw [List.length_append, hgl]; rfl, fun k' os' r' ho' hr' => ?_, fun r' hr' g hg => ?_⟩
      · rw [List.take_add_one, hos, List.map_append]
        exact (hys16.mono fun a x => OptIn.tp tpa).snoc ⟨p, rfl, tpx _ _ kp⟩
      · by_cases hkj : k' < j
        · rw [List.getElem?_append_left (by omega)] at hr'
          exact hrow k' os' r' ho' hr'
        · have hkl := (List.getElem?_eq_some_iff.mp hr').1
          rw [List.length_append, hgl] at hkl
          have hkl : k' < j + 1 := hkl
          have : k' = j := by omega
          subst this
          rw [List.getElem?_append_right (by omega), hgl, Nat.sub_self] at hr'
          cases hr'
          rw [hos] at ho'
          cases ho'
          omega
      · rcases List.mem_append.mp hr' with h | h
        · exact hnn r' h g hg
        · rw [List.mem_singleton.mp h] at hg
          exact hes0 g hg
    have e117 := (g17.tp D8) _ _ e1
    refine ⟨_, rfl, b1, _, rfl, .inr (sqt e117), t1, _, _, rfl, rfl, sqt k17, by simp, by omega, by omega, by decide, fun h1 => ?_, fun h1 p hp' => ?_⟩
    · have hw1 : os.length = 1 := by omega
      exact fin t1 H17 (Same.refl _) (by rw [k17, hw1]; rfl)
    · obtain ⟨H18, E18, s18, k18⟩ := newH hp' (.tup ((List.replicate os.length (1 : Int)).map V.int))
      rw [show (List.replicate ((ws.length : Nat) : Int).toNat [V.int 1]).flatten = (List.replicate os.length (1 : Int)).map V.int by rw [Int.toNat_natCast, hwl, ones_flat], E18]
      exact fin p H18 s18 k18
  rintro σ H13 ⟨gn, xs, ys, y7, rfl, g13, kc, ko, hxs, hys, hgl, hrow, hnn⟩
  rw [List.take_of_length_le (by omega)] at hys
  have hC : CsG A0 gn := ⟨by omega, hrow, hnn⟩
  have hC1 : CsG A0 (A0.map fun os => List.replicate os.length (1 : Int)) := ⟨by rw [List.length_map], fun k os r ho hr => by
    rw [List.getElem?_map, ho] at hr
    cases hr
    rw [List.length_replicate], fun r hr g hg => by
    obtain ⟨os, _, rfl⟩ := List.mem_map.mp hr
    rw [List.eq_of_mem_replicate hg]
    decide⟩
  have hA13 := hA.tp (g13.tp D8)
  have khp13 := g13.tp D8 _ _ khp
  refine ⟨_, rfl, _, rfl, _, rfl, cl, _, rfl, .inl ⟨sqd kc, fun t1 ht1 => ?_⟩⟩
  obtain ⟨H14, E14, s14, k14⟩ := newH ht1 (.tup xs)
  rw [E14]
  refine ⟨.ref b0, .ref t1, hp, A0, hm, gn, rfl, hA13.tp (Tp.same s14), hG, s14 _ _ khp13, hhm, ⟨t1, xs, rfl, k14, hxs.mono fun a x => OptIn.tp (Tp.same s14)⟩, hC, fun p Tt O H15 s15 kp hSol => ?_⟩
  have s1315 := s14.trans s15
  refine ⟨_, rfl, _, rfl, _, rfl, .ref b0, hp, cl, A0, hm, gn, xs, rfl, hA13.tp (Tp.same s1315), hG, s1315 _ _ khp13, hhm, s1315 _ _ kc, hxs.mono (fun a x => OptIn.tp (Tp.same s1315)), hC, fun p2 D2 H16 s16 k2' h0 hR => ?_⟩
  rw [tlV_ext (fun k hk => due_is hG hSol h0 hhm hR k hk)] at k2'
  refine ⟨p, p2, A0.length, Tt, rfl, s16 _ _ kp, k2', by omega, true, rfl, iteF ?_⟩
  -- ranks
  have s1316 := s1315.trans s16
  refine ⟨_, rfl, _, rfl, _, rfl, ol, _, rfl, .inl ⟨sqd (s1316 _ _ ko), fun t2 ht2 => ?_⟩⟩
  obtain ⟨H17, E17, s17, k17⟩ := newH ht2 (.tup ys)
  rw [E17]
  have s1317 := s1316.trans s17
  refine ⟨.ref b0, .ref t2, hp, A0, hm, A0.map fun os => List.replicate os.length (1 : Int), rfl, hA13.tp (Tp.same s1317), hG, s1317 _ _ khp13, hhm, ⟨t2, ys, rfl, k17, hys.mono fun a x => OptIn.tp (Tp.same s1317)⟩, hC1, fun p3 T3 O3 H18 s18 kp3 hSol3 => ?_⟩
  have hSol1 : Sol A0 (fun _ _ => 1) hm T3 O3 := hSol3.congr fun k i o ho => by
    obtain ⟨os, h1, h2⟩ := ho
    have h3 := (List.getElem?_eq_some_iff.mp h2).1
    unfold cstF
    rw [List.getElem?_map, h1]
    show ((List.replicate os.length (1 : Int))[i]?).getD 0 = 1
    rw [List.getElem?_replicate, if_pos h3]
    rfl
  have s1318 := s1317.trans s18
  refine ⟨_, rfl, _, rfl, .ref b0, A0, hp, hm, rfl, hA13.tp (Tp.same s1318), hG, s1318 _ _ khp13, hhm, fun p4 rs H19 s19 _ k4' hRk => ?_⟩
  rw [rk_list hRk, tlV_ext (fun k hk => (rank_is hG hSol1 k hk).symm)] at k4'
  exact ⟨p3, p4, A0.length, T3, rfl, s19 _ _ kp3, k4', by omega, q H19⟩
end
end NL

namespace NL
open PySem PySem.Spec PyProof.Rows L2
theorem all_mk {l : PySem.W.OpenLaw} {w : World} {K : PySem.W.Frag} {h : Heap} {mg : Str → Option Value} {fa fleast_costs f_options_to f_law_is_integer f_law_draws f_law_take f_law_options f_law_distinct f_law_arena f_law_some f_law_long f_law_come_ranks f_law_due f_law_told flaw : Addr} (X : K.In h) (G : h.Ns mainGlobals mg) (hfa : mg "law" = some (.ref fa))
    {odleast_costs anleast_costs : Option Addr} {slleast_costs : Array (Option Value)} {ocleast_costs kVleast_costs dcleast_costs pmleast_costs cdleast_costs ctleast_costs : Value}
    {od_options_to an_options_to : Option Addr} {sl_options_to : Array (Option Value)} {oc_options_to kV_options_to dc_options_to pm_options_to cd_options_to ct_options_to : Value}
    {od_law_is_integer an_law_is_integer : Option Addr} {sl_law_is_integer : Array (Option Value)} {oc_law_is_integer kV_law_is_integer dc_law_is_integer pm_law_is_integer cd_law_is_integer ct_law_is_integer : Value}
    {od_law_draws an_law_draws : Option Addr} {sl_law_draws : Array (Option Value)} {oc_law_draws kV_law_draws dc_law_draws pm_law_draws cd_law_draws ct_law_draws : Value}
    {od_law_take an_law_take : Option Addr} {sl_law_take : Array (Option Value)} {oc_law_take kV_law_take dc_law_take pm_law_take cd_law_take ct_law_take : Value}
    {od_law_options an_law_options : Option Addr} {sl_law_options : Array (Option Value)} {oc_law_options kV_law_options dc_law_options pm_law_options cd_law_options ct_law_options : Value}
    {od_law_distinct an_law_distinct : Option Addr} {sl_law_distinct : Array (Option Value)} {oc_law_distinct kV_law_distinct dc_law_distinct pm_law_distinct cd_law_distinct ct_law_distinct : Value}
    {od_law_arena an_law_arena : Option Addr} {sl_law_arena : Array (Option Value)} {oc_law_arena kV_law_arena dc_law_arena pm_law_arena cd_law_arena ct_law_arena : Value}
    {od_law_some an_law_some : Option Addr} {sl_law_some : Array (Option Value)} {oc_law_some kV_law_some dc_law_some pm_law_some cd_law_some ct_law_some : Value}
    {od_law_long an_law_long : Option Addr} {sl_law_long : Array (Option Value)} {oc_law_long kV_law_long dc_law_long pm_law_long cd_law_long ct_law_long : Value}
    {od_law_come_ranks an_law_come_ranks : Option Addr} {sl_law_come_ranks : Array (Option Value)} {oc_law_come_ranks kV_law_come_ranks dc_law_come_ranks pm_law_come_ranks cd_law_come_ranks ct_law_come_ranks : Value}
    {od_law_due an_law_due : Option Addr} {sl_law_due : Array (Option Value)} {oc_law_due kV_law_due dc_law_due pm_law_due cd_law_due ct_law_due : Value}
    {od_law_told an_law_told : Option Addr} {sl_law_told : Array (Option Value)} {oc_law_told kV_law_told dc_law_told pm_law_told cd_law_told ct_law_told : Value}
    {odlaw anlaw : Option Addr} {sllaw : Array (Option Value)} {oclaw kVlaw dclaw pmlaw cdlaw ctlaw : Value}
    (aleast_costs : PySem.W.nsIn K mainGlobals "least_costs" = some (some (.ref fleast_costs))) (lleast_costs : K.lookup fleast_costs = some ⟨ocleast_costs, odleast_costs, .func (PySem.W.fnOf "least_costs" "least_costs" (defArgs sleast_costs) (defBody sleast_costs) (defScope sleast_costs) .none kVleast_costs dcleast_costs pmleast_costs anleast_costs cdleast_costs ctleast_costs), slleast_costs⟩) (cleast_costs : PySem.W.codeIn K cdleast_costs "least_costs" = true) (kleast_costs : PySem.W.keepIn K (.ref fleast_costs) = true)
    (a_options_to : PySem.W.nsIn K mainGlobals "_options_to" = some (some (.ref f_options_to))) (l_options_to : K.lookup f_options_to = some ⟨oc_options_to, od_options_to, .func (PySem.W.fnOf "_options_to" "_options_to" (defArgs s_options_to) (defBody s_options_to) (defScope s_options_to) .none kV_options_to dc_options_to pm_options_to an_options_to cd_options_to ct_options_to), sl_options_to⟩) (c_options_to : PySem.W.codeIn K cd_options_to "_options_to" = true) (k_options_to : PySem.W.keepIn K (.ref f_options_to) = true)
    (a_law_is_integer : PySem.W.nsIn K mainGlobals "_law_is_integer" = some (some (.ref f_law_is_integer))) (l_law_is_integer : K.lookup f_law_is_integer = some ⟨oc_law_is_integer, od_law_is_integer, .func (PySem.W.fnOf "_law_is_integer" "_law_is_integer" (defArgs s_law_is_integer) (defBody s_law_is_integer) (defScope s_law_is_integer) .none kV_law_is_integer dc_law_is_integer pm_law_is_integer an_law_is_integer cd_law_is_integer ct_law_is_integer), sl_law_is_integer⟩) (c_law_is_integer : PySem.W.codeIn K cd_law_is_integer "_law_is_integer" = true) (k_law_is_integer : PySem.W.keepIn K (.ref f_law_is_integer) = true)
    (a_law_draws : PySem.W.nsIn K mainGlobals "_law_draws" = some (some (.ref f_law_draws))) (l_law_draws : K.lookup f_law_draws = some ⟨oc_law_draws, od_law_draws, .func (PySem.W.fnOf "_law_draws" "_law_draws" (defArgs s_law_draws) (defBody s_law_draws) (defScope s_law_draws) .none kV_law_draws dc_law_draws pm_law_draws an_law_draws cd_law_draws ct_law_draws), sl_law_draws⟩) (c_law_draws : PySem.W.codeIn K cd_law_draws "_law_draws" = true) (k_law_draws : PySem.W.keepIn K (.ref f_law_draws) = true)
    (a_law_take : PySem.W.nsIn K mainGlobals "_law_take" = some (some (.ref f_law_take))) (l_law_take : K.lookup f_law_take = some ⟨oc_law_take, od_law_take, .func (PySem.W.fnOf "_law_take" "_law_take" (defArgs s_law_take) (defBody s_law_take) (defScope s_law_take) .none kV_law_take dc_law_take pm_law_take an_law_take cd_law_take ct_law_take), sl_law_take⟩) (c_law_take : PySem.W.codeIn K cd_law_take "_law_take" = true) (k_law_take : PySem.W.keepIn K (.ref f_law_take) = true)
    (a_law_options : PySem.W.nsIn K mainGlobals "_law_options" = some (some (.ref f_law_options))) (l_law_options : K.lookup f_law_options = some ⟨oc_law_options, od_law_options, .func (PySem.W.fnOf "_law_options" "_law_options" (defArgs s_law_options) (defBody s_law_options) (defScope s_law_options) .none kV_law_options dc_law_options pm_law_options an_law_options cd_law_options ct_law_options), sl_law_options⟩) (c_law_options : PySem.W.codeIn K cd_law_options "_law_options" = true) (k_law_options : PySem.W.keepIn K (.ref f_law_options) = true)
    (a_law_distinct : PySem.W.nsIn K mainGlobals "_law_distinct" = some (some (.ref f_law_distinct))) (l_law_distinct : K.lookup f_law_distinct = some ⟨oc_law_distinct, od_law_distinct, .func (PySem.W.fnOf "_law_distinct" "_law_distinct" (defArgs s_law_distinct) (defBody s_law_distinct) (defScope s_law_distinct) .none kV_law_distinct dc_law_distinct pm_law_distinct an_law_distinct cd_law_distinct ct_law_distinct), sl_law_distinct⟩) (c_law_distinct : PySem.W.codeIn K cd_law_distinct "_law_distinct" = true) (k_law_distinct : PySem.W.keepIn K (.ref f_law_distinct) = true)
    (a_law_arena : PySem.W.nsIn K mainGlobals "_law_arena" = some (some (.ref f_law_arena))) (l_law_arena : K.lookup f_law_arena = some ⟨oc_law_arena, od_law_arena, .func (PySem.W.fnOf "_law_arena" "_law_arena" (defArgs s_law_arena) (defBody s_law_arena) (defScope s_law_arena) .none kV_law_arena dc_law_arena pm_law_arena an_law_arena cd_law_arena ct_law_arena), sl_law_arena⟩) (c_law_arena : PySem.W.codeIn K cd_law_arena "_law_arena" = true) (k_law_arena : PySem.W.keepIn K (.ref f_law_arena) = true)
    (a_law_some : PySem.W.nsIn K mainGlobals "_law_some" = some (some (.ref f_law_some))) (l_law_some : K.lookup f_law_some = some ⟨oc_law_some, od_law_some, .func (PySem.W.fnOf "_law_some" "_law_some" (defArgs s_law_some) (defBody s_law_some) (defScope s_law_some) .none kV_law_some dc_law_some pm_law_some an_law_some cd_law_some ct_law_some), sl_law_some⟩) (c_law_some : PySem.W.codeIn K cd_law_some "_law_some" = true) (k_law_some : PySem.W.keepIn K (.ref f_law_some) = true)
    (a_law_long : PySem.W.nsIn K mainGlobals "_law_long" = some (some (.ref f_law_long))) (l_law_long : K.lookup f_law_long = some ⟨oc_law_long, od_law_long, .func (PySem.W.fnOf "_law_long" "_law_long" (defArgs s_law_long) (defBody s_law_long) (defScope s_law_long) .none kV_law_long dc_law_long pm_law_long an_law_long cd_law_long ct_law_long), sl_law_long⟩) (c_law_long : PySem.W.codeIn K cd_law_long "_law_long" = true) (k_law_long : PySem.W.keepIn K (.ref f_law_long) = true)
    (a_law_come_ranks : PySem.W.nsIn K mainGlobals "_law_come_ranks" = some (some (.ref f_law_come_ranks))) (l_law_come_ranks : K.lookup f_law_come_ranks = some ⟨oc_law_come_ranks, od_law_come_ranks, .func (PySem.W.fnOf "_law_come_ranks" "_law_come_ranks" (defArgs s_law_come_ranks) (defBody s_law_come_ranks) (defScope s_law_come_ranks) .none kV_law_come_ranks dc_law_come_ranks pm_law_come_ranks an_law_come_ranks cd_law_come_ranks ct_law_come_ranks), sl_law_come_ranks⟩) (c_law_come_ranks : PySem.W.codeIn K cd_law_come_ranks "_law_come_ranks" = true) (k_law_come_ranks : PySem.W.keepIn K (.ref f_law_come_ranks) = true)
    (a_law_due : PySem.W.nsIn K mainGlobals "_law_due" = some (some (.ref f_law_due))) (l_law_due : K.lookup f_law_due = some ⟨oc_law_due, od_law_due, .func (PySem.W.fnOf "_law_due" "_law_due" (defArgs s_law_due) (defBody s_law_due) (defScope s_law_due) .none kV_law_due dc_law_due pm_law_due an_law_due cd_law_due ct_law_due), sl_law_due⟩) (c_law_due : PySem.W.codeIn K cd_law_due "_law_due" = true) (k_law_due : PySem.W.keepIn K (.ref f_law_due) = true)
    (a_law_told : PySem.W.nsIn K mainGlobals "_law_told" = some (some (.ref f_law_told))) (l_law_told : K.lookup f_law_told = some ⟨oc_law_told, od_law_told, .func (PySem.W.fnOf "_law_told" "_law_told" (defArgs s_law_told) (defBody s_law_told) (defScope s_law_told) .none kV_law_told dc_law_told pm_law_told an_law_told cd_law_told ct_law_told), sl_law_told⟩) (c_law_told : PySem.W.codeIn K cd_law_told "_law_told" = true) (k_law_told : PySem.W.keepIn K (.ref f_law_told) = true)
    (alaw : PySem.W.nsIn K mainGlobals "law" = some (some (.ref flaw))) (llaw : K.lookup flaw = some ⟨oclaw, odlaw, .func (PySem.W.fnOf "law" "law" (defArgs slaw) (defBody slaw) (defScope slaw) .none kVlaw dclaw pmlaw anlaw cdlaw ctlaw), sllaw⟩) (claw : PySem.W.codeIn K cdlaw "law" = true) (klaw : PySem.W.keepIn K (.ref flaw) = true)
    (z_bool : PySem.W.nsIn K mainGlobals "bool" = some none)
    (z_enumerate : PySem.W.nsIn K mainGlobals "enumerate" = some none)
    (z_int : PySem.W.nsIn K mainGlobals "int" = some none)
    (z_isinstance : PySem.W.nsIn K mainGlobals "isinstance" = some none)
    (z_len : PySem.W.nsIn K mainGlobals "len" = some none)
    (z_list : PySem.W.nsIn K mainGlobals "list" = some none)
    (z_max : PySem.W.nsIn K mainGlobals "max" = some none)
    (z_min : PySem.W.nsIn K mainGlobals "min" = some none)
    (z_range : PySem.W.nsIn K mainGlobals "range" = some none)
    (z_sorted : PySem.W.nsIn K mainGlobals "sorted" = some none)
    (z_tuple : PySem.W.nsIn K mainGlobals "tuple" = some none)
    : ∃ fd : FuncData, (∀ (s : Shared) (v : Value), BindsTo s fd ⟨[v], []⟩ [("script", v)]) ∧ ∀ base : Heap, K.In base → base.Ns mainGlobals mg → FnOk l.prog w K mg base CX0 8 fa fd ["script"] (spLaw K) := by
  have e := hfa.symm.trans (PySem.W.mg_of X G alaw)
  cases e
  let T : Txt K mg := {
    z_bool := PySem.W.mg_none_of X G z_bool
    z_enumerate := PySem.W.mg_none_of X G z_enumerate
    z_int := PySem.W.mg_none_of X G z_int
    z_isinstance := PySem.W.mg_none_of X G z_isinstance
    z_len := PySem.W.mg_none_of X G z_len
    z_list := PySem.W.mg_none_of X G z_list
    z_max := PySem.W.mg_none_of X G z_max
    z_min := PySem.W.mg_none_of X G z_min
    z_range := PySem.W.mg_none_of X G z_range
    z_sorted := PySem.W.mg_none_of X G z_sorted
    z_tuple := PySem.W.mg_none_of X G z_tuple
    aleast_costs := fleast_costs
    dleast_costs := _
    Fleast_costs := fun_mk (st := sleast_costs) lleast_costs cleast_costs kleast_costs
    mleast_costs := PySem.W.mg_of X G aleast_costs
    a_options_to := f_options_to
    d_options_to := _
    F_options_to := fun_mk (st := s_options_to) l_options_to c_options_to k_options_to
    m_options_to := PySem.W.mg_of X G a_options_to
    a_law_is_integer := f_law_is_integer
    d_law_is_integer := _
    F_law_is_integer := fun_mk (st := s_law_is_integer) l_law_is_integer c_law_is_integer k_law_is_integer
    m_law_is_integer := PySem.W.mg_of X G a_law_is_integer
    a_law_draws := f_law_draws
    d_law_draws := _
    F_law_draws := fun_mk (st := s_law_draws) l_law_draws c_law_draws k_law_draws
    m_law_draws := PySem.W.mg_of X G a_law_draws
    a_law_take := f_law_take
    d_law_take := _
    F_law_take := fun_mk (st := s_law_take) l_law_take c_law_take k_law_take
    m_law_take := PySem.W.mg_of X G a_law_take
    a_law_options := f_law_options
    d_law_options := _
    F_law_options := fun_mk (st := s_law_options) l_law_options c_law_options k_law_options
    m_law_options := PySem.W.mg_of X G a_law_options
    a_law_distinct := f_law_distinct
    d_law_distinct := _
    F_law_distinct := fun_mk (st := s_law_distinct) l_law_distinct c_law_distinct k_law_distinct
    m_law_distinct := PySem.W.mg_of X G a_law_distinct
    a_law_arena := f_law_arena
    d_law_arena := _
    F_law_arena := fun_mk (st := s_law_arena) l_law_arena c_law_arena k_law_arena
    m_law_arena := PySem.W.mg_of X G a_law_arena
    a_law_some := f_law_some
    d_law_some := _
    F_law_some := fun_mk (st := s_law_some) l_law_some c_law_some k_law_some
    m_law_some := PySem.W.mg_of X G a_law_some
    a_law_long := f_law_long
    d_law_long := _
    F_law_long := fun_mk (st := s_law_long) l_law_long c_law_long k_law_long
    m_law_long := PySem.W.mg_of X G a_law_long
    a_law_come_ranks := f_law_come_ranks
    d_law_come_ranks := _
    F_law_come_ranks := fun_mk (st := s_law_come_ranks) l_law_come_ranks c_law_come_ranks k_law_come_ranks
    m_law_come_ranks := PySem.W.mg_of X G a_law_come_ranks
    a_law_due := f_law_due
    d_law_due := _
    F_law_due := fun_mk (st := s_law_due) l_law_due c_law_due k_law_due
    m_law_due := PySem.W.mg_of X G a_law_due
    a_law_told := f_law_told
    d_law_told := _
    F_law_told := fun_mk (st := s_law_told) l_law_told c_law_told k_law_told
    m_law_told := PySem.W.mg_of X G a_law_told
    alaw := fa
    dlaw := _
    Flaw := fun_mk (st := slaw) llaw claw klaw
    mlaw := PySem.W.mg_of X G alaw }
  refine ⟨T.dlaw, fun s v => .of_eq rfl, fun base _ _ => ?_⟩
  exact ok_law T
end NL
open PySem PySem.W PyProof.Rows
set_option maxRecDepth 100000 in
set_option maxHeartbeats 0 in
theorem PySem.Challenge.cw_neverleaves_k00_least_costs_home_holds : PySem.Challenge.rw_neverleaves_k00_least_costs_home.Holds := by
  w_on; o_law; k_head; (case hw => w_witness2)
  k_fill
  refine L2.walk_of (l := PySem.Challenge.rw_neverleaves_k00_least_costs_home) (n := 63) (k := 8) (x := "script") (CX := fun _ => L2.CX0) (sp := fun w => NL.spLaw _) rfl (by decide) rfl ⟨rfl, by decide, by decide⟩ (fun w h Y => PySem.W.kIn_of Y) ?F (fun _ _ a ns hl _ hS => ⟨a, ns, rfl, hS, hl, fun _ => rfl⟩) (fun _ _ _ _ _ h => h)
  case F =>
    intro w mg fa h KX G hmg
    refine' NL.all_mk KX G hmg  ?aleast_costs ?lleast_costs ?cleast_costs ?kleast_costs ?a_options_to ?l_options_to ?c_options_to ?k_options_to ?a_law_is_integer ?l_law_is_integer ?c_law_is_integer ?k_law_is_integer ?a_law_draws ?l_law_draws ?c_law_draws ?k_law_draws ?a_law_take ?l_law_take ?c_law_take ?k_law_take ?a_law_options ?l_law_options ?c_law_options ?k_law_options ?a_law_distinct ?l_law_distinct ?c_law_distinct ?k_law_distinct ?a_law_arena ?l_law_arena ?c_law_arena ?k_law_arena ?a_law_some ?l_law_some ?c_law_some ?k_law_some ?a_law_long ?l_law_long ?c_law_long ?k_law_long ?a_law_come_ranks ?l_law_come_ranks ?c_law_come_ranks ?k_law_come_ranks ?a_law_due ?l_law_due ?c_law_due ?k_law_due ?a_law_told ?l_law_told ?c_law_told ?k_law_told ?alaw ?llaw ?claw ?klaw  ?z_bool ?z_enumerate ?z_int ?z_isinstance ?z_len ?z_list ?z_max ?z_min ?z_range ?z_sorted ?z_tuple
    (case aleast_costs => k_is); (case lleast_costs => k_is); (case cleast_costs => k_is); (case kleast_costs => k_is)
    (case a_options_to => k_is); (case l_options_to => k_is); (case c_options_to => k_is); (case k_options_to => k_is)
    (case a_law_is_integer => k_is); (case l_law_is_integer => k_is); (case c_law_is_integer => k_is); (case k_law_is_integer => k_is)
    (case a_law_draws => k_is); (case l_law_draws => k_is); (case c_law_draws => k_is); (case k_law_draws => k_is)
    (case a_law_take => k_is); (case l_law_take => k_is); (case c_law_take => k_is); (case k_law_take => k_is)
    (case a_law_options => k_is); (case l_law_options => k_is); (case c_law_options => k_is); (case k_law_options => k_is)
    (case a_law_distinct => k_is); (case l_law_distinct => k_is); (case c_law_distinct => k_is); (case k_law_distinct => k_is)
    (case a_law_arena => k_is); (case l_law_arena => k_is); (case c_law_arena => k_is); (case k_law_arena => k_is)
    (case a_law_some => k_is); (case l_law_some => k_is); (case c_law_some => k_is); (case k_law_some => k_is)
    (case a_law_long => k_is); (case l_law_long => k_is); (case c_law_long => k_is); (case k_law_long => k_is)
    (case a_law_come_ranks => k_is); (case l_law_come_ranks => k_is); (case c_law_come_ranks => k_is); (case k_law_come_ranks => k_is)
    (case a_law_due => k_is); (case l_law_due => k_is); (case c_law_due => k_is); (case k_law_due => k_is)
    (case a_law_told => k_is); (case l_law_told => k_is); (case c_law_told => k_is); (case k_law_told => k_is)
    (case alaw => k_is); (case llaw => k_is); (case claw => k_is); (case klaw => k_is)
    (case z_bool => k_is)
    (case z_enumerate => k_is)
    (case z_int => k_is)
    (case z_isinstance => k_is)
    (case z_len => k_is)
    (case z_list => k_is)
    (case z_max => k_is)
    (case z_min => k_is)
    (case z_range => k_is)
    (case z_sorted => k_is)
    (case z_tuple => k_is)
