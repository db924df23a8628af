import PyProof.Rows.All
import Wide.All
import OpenK.AllK
import Wide.FinOn
import HandS.ForExc
import HandS.ForMost
import HandS.TupAny
import HandS.IsInst
import HandS.Codes
import HandS.FStr
import HandS.Zip
import HandS.More
import HandS.DictComp
import HandS.Walk
import HandS.Conv
import HandS.TupMul
import KE.GoesMore
import HandS.AnyAll
import HandS.EndOwn
import PyProof.GenCompD
import HandS.Iter
import HandS.Deep
import HandS.SortKw
import KE.DataMinMax
import KE.KxIndex
import PySem.Challenge.RW_neverleaves_k33_least_beats
set_option Elab.async false
set_option linter.all false
set_option maxRecDepth 100000

namespace NL
open PySem PySem.Spec PyProof.Rows L2
def topS (i : Nat) : Stmt := PySem.Challenge.pw_neverleaves_k33_least_beats.main.body.getD i (.Pass ⟨0, 0, 0, 0⟩)
abbrev sforces : Stmt := topS 2
abbrev Nforces : List Str := ["side", "options", "marks", "option"]
abbrev Pforces : List Str := ["side", "options", "marks"]
theorem scforces : FnScope Nforces Pforces (defScope sforces) := ⟨rfl, rfl, rfl, by decide +kernel, rfl, by decide +kernel, by decide +kernel⟩
abbrev s_all_marked : Stmt := topS 3
abbrev N_all_marked : List Str := ["option", "marks", "after"]
abbrev P_all_marked : List Str := ["option", "marks"]
theorem sc_all_marked : FnScope N_all_marked P_all_marked (defScope s_all_marked) := ⟨rfl, rfl, rfl, by decide +kernel, rfl, by decide +kernel, by decide +kernel⟩
abbrev s_some_marked : Stmt := topS 4
abbrev N_some_marked : List Str := ["option", "marks", "after"]
abbrev P_some_marked : List Str := ["option", "marks"]
theorem sc_some_marked : FnScope N_some_marked P_some_marked (defScope s_some_marked) := ⟨rfl, rfl, rfl, by decide +kernel, rfl, by decide +kernel, by decide +kernel⟩
abbrev ssteps_to : Stmt := topS 5
abbrev Nsteps_to : List Str := ["arena", "side", "marks", "among", "reached", "steps", "many", "grows", "found", "at"]
abbrev Psteps_to : List Str := ["arena", "side", "marks", "among"]
theorem scsteps_to : FnScope Nsteps_to Psteps_to (defScope ssteps_to) := ⟨rfl, rfl, rfl, by decide +kernel, rfl, by decide +kernel, by decide +kernel⟩
abbrev sleast_beats : Stmt := topS 7
abbrev Nleast_beats : List Str := ["arena", "home", "beats", "limit", "kept", "ranks", "needs", "at", "beat"]
abbrev Pleast_beats : List Str := ["arena", "home"]
theorem scleast_beats : FnScope Nleast_beats Pleast_beats (defScope sleast_beats) := ⟨rfl, rfl, rfl, by decide +kernel, rfl, by decide +kernel, by decide +kernel⟩
abbrev s_ranks_to : Stmt := topS 8
abbrev N_ranks_to : List Str := ["arena", "home", "kept", "marks", "at", "ranks"]
abbrev P_ranks_to : List Str := ["arena", "home", "kept"]
theorem sc_ranks_to : FnScope N_ranks_to P_ranks_to (defScope s_ranks_to) := ⟨rfl, rfl, rfl, by decide +kernel, rfl, by decide +kernel, by decide +kernel⟩
abbrev s_need : Stmt := topS 9
abbrev N_need : List Str := ["options", "ranks", "too_many", "after", "option"]
abbrev P_need : List Str := ["options", "ranks", "too_many"]
theorem sc_need : FnScope N_need P_need (defScope s_need) := ⟨rfl, rfl, rfl, by decide +kernel, rfl, by decide +kernel, by decide +kernel⟩
abbrev s_take_lesser : Stmt := topS 10
abbrev N_take_lesser : List Str := ["beats", "ranks", "beat", "at", "longest"]
abbrev P_take_lesser : List Str := ["beats", "ranks", "beat"]
theorem sc_take_lesser : FnScope N_take_lesser P_take_lesser (defScope s_take_lesser) := ⟨rfl, rfl, rfl, by decide +kernel, rfl, by decide +kernel, by decide +kernel⟩
abbrev s_law_draws : Stmt := topS 12
abbrev N_law_draws : List Str := ["script", "many", "cells", "cell", "rest", "draws", "k", "at", "once"]
abbrev P_law_draws : List Str := ["script", "many"]
theorem sc_law_draws : FnScope N_law_draws P_law_draws (defScope s_law_draws) := ⟨rfl, rfl, rfl, by decide +kernel, rfl, by decide +kernel, by decide +kernel⟩
abbrev s_law_take : Stmt := topS 13
abbrev N_law_take : List Str := ["draws", "many"]
abbrev P_law_take : List Str := ["draws", "many"]
theorem sc_law_take : FnScope N_law_take P_law_take (defScope s_law_take) := ⟨rfl, rfl, rfl, by decide +kernel, rfl, by decide +kernel, by decide +kernel⟩
abbrev s_law_options : Stmt := topS 14
abbrev N_law_options : List Str := ["draws", "count", "sizes", "options", "j", "found", "i", "successor"]
abbrev P_law_options : List Str := ["draws", "count", "sizes"]
theorem sc_law_options : FnScope N_law_options P_law_options (defScope s_law_options) := ⟨rfl, rfl, rfl, by decide +kernel, rfl, by decide +kernel, by decide +kernel⟩
abbrev s_law_distinct : Stmt := topS 15
abbrev N_law_distinct : List Str := ["items", "found", "item"]
abbrev P_law_distinct : List Str := ["items"]
theorem sc_law_distinct : FnScope N_law_distinct P_law_distinct (defScope s_law_distinct) := ⟨rfl, rfl, rfl, by decide +kernel, rfl, by decide +kernel, by decide +kernel⟩
abbrev s_law_arena : Stmt := topS 16
abbrev N_law_arena : List Str := ["draws", "most", "count", "tower", "arena", "k", "options"]
abbrev P_law_arena : List Str := ["draws", "most"]
theorem sc_law_arena : FnScope N_law_arena P_law_arena (defScope s_law_arena) := ⟨rfl, rfl, rfl, by decide +kernel, rfl, by decide +kernel, by decide +kernel⟩
abbrev s_law_some : Stmt := topS 17
abbrev N_law_some : List Str := ["draws", "count", "share", "k"]
abbrev P_law_some : List Str := ["draws", "count", "share"]
theorem sc_law_some : FnScope N_law_some P_law_some (defScope s_law_some) := ⟨rfl, rfl, rfl, by decide +kernel, rfl, by decide +kernel, by decide +kernel⟩
abbrev s_law_is_integer : Stmt := topS 18
abbrev N_law_is_integer : List Str := ["value"]
abbrev P_law_is_integer : List Str := ["value"]
theorem sc_law_is_integer : FnScope N_law_is_integer P_law_is_integer (defScope s_law_is_integer) := ⟨rfl, rfl, rfl, by decide +kernel, rfl, by decide +kernel, by decide +kernel⟩
abbrev s_law_kept : Stmt := topS 19
abbrev N_law_kept : List Str := ["arena", "home", "beat", "kept", "k", "away", "step", "stays", "pair", "option", "bad", "one"]
abbrev P_law_kept : List Str := ["arena", "home", "beat"]
theorem sc_law_kept : FnScope N_law_kept P_law_kept (defScope s_law_kept) := ⟨rfl, rfl, rfl, by decide +kernel, rfl, by decide +kernel, by decide +kernel⟩
abbrev s_law_ring_right : Stmt := topS 20
abbrev N_law_ring_right : List Str := ["size", "at", "arena", "k"]
abbrev P_law_ring_right : List Str := ["size", "at"]
theorem sc_law_ring_right : FnScope N_law_ring_right P_law_ring_right (defScope s_law_ring_right) := ⟨rfl, rfl, rfl, by decide +kernel, rfl, by decide +kernel, by decide +kernel⟩
abbrev slaw : Stmt := topS 21
abbrev Nlaw : List Str := ["script", "draws", "size", "arena", "home", "due", "options", "beat", "kept", "k", "actual"]
abbrev Plaw : List Str := ["script"]
theorem sclaw : FnScope Nlaw Plaw (defScope slaw) := ⟨rfl, rfl, rfl, by decide +kernel, rfl, by decide +kernel, by decide +kernel⟩
def KT (K : PySem.W.Frag) (a : Addr) (ys : List V) : Prop := ∃ o its n, List.lookup a K = some o ∧ o.cls = .type "tuple" ∧ o.data = .seq its n ∧ its.size ≤ sizeLine ∧ L2.Vals ys its.toList
theorem kt_mk {K : PySem.W.Frag} {a : Addr} {ys : List V} {o : Obj} {its : Array Value} {n : Nat} (h1 : List.lookup a K = some o) (h2 : o.cls = .type "tuple") (h3 : o.data = .seq its n) (h4 : its.size ≤ sizeLine) (h5 : L2.Vals ys its.toList) : KT K a ys := ⟨o, its, n, h1, h2, h3, h4, h5⟩
set_option genInjectivity false in
set_option genSizeOfSpec false in
structure Txt (K : PySem.W.Frag) (mg : Str → Option Value) where
  z_all : mg "all" = none
  z_any : mg "any" = none
  z_bool : mg "bool" = none
  z_int : mg "int" = none
  z_isinstance : mg "isinstance" = none
  z_len : mg "len" = none
  z_list : mg "list" = none
  z_max : mg "max" = none
  z_min : mg "min" = none
  z_range : mg "range" = none
  z_sorted : mg "sorted" = none
  z_tuple : mg "tuple" = none
  u_CONTROLLER : Value
  g_CONTROLLER : mg "CONTROLLER" = some u_CONTROLLER
  r_CONTROLLER : L2.RelV (.int 0) u_CONTROLLER
  aforces : Addr
  dforces : FuncData
  Fforces : Fun K "forces" "forces" sforces aforces dforces
  mforces : mg "forces" = some (.ref aforces)
  a_all_marked : Addr
  d_all_marked : FuncData
  F_all_marked : Fun K "_all_marked" "_all_marked" s_all_marked a_all_marked d_all_marked
  m_all_marked : mg "_all_marked" = some (.ref a_all_marked)
  a_some_marked : Addr
  d_some_marked : FuncData
  F_some_marked : Fun K "_some_marked" "_some_marked" s_some_marked a_some_marked d_some_marked
  m_some_marked : mg "_some_marked" = some (.ref a_some_marked)
  asteps_to : Addr
  dsteps_to : FuncData
  Fsteps_to : Fun K "steps_to" "steps_to" ssteps_to asteps_to dsteps_to
  msteps_to : mg "steps_to" = some (.ref asteps_to)
  aleast_beats : Addr
  dleast_beats : FuncData
  Fleast_beats : Fun K "least_beats" "least_beats" sleast_beats aleast_beats dleast_beats
  mleast_beats : mg "least_beats" = some (.ref aleast_beats)
  a_ranks_to : Addr
  d_ranks_to : FuncData
  F_ranks_to : Fun K "_ranks_to" "_ranks_to" s_ranks_to a_ranks_to d_ranks_to
  m_ranks_to : mg "_ranks_to" = some (.ref a_ranks_to)
  a_need : Addr
  d_need : FuncData
  F_need : Fun K "_need" "_need" s_need a_need d_need
  m_need : mg "_need" = some (.ref a_need)
  a_take_lesser : Addr
  d_take_lesser : FuncData
  F_take_lesser : Fun K "_take_lesser" "_take_lesser" s_take_lesser a_take_lesser d_take_lesser
  m_take_lesser : mg "_take_lesser" = some (.ref a_take_lesser)
  a_law_draws : Addr
  d_law_draws : FuncData
  F_law_draws : Fun K "_law_draws" "_law_draws" s_law_draws a_law_draws d_law_draws
  m_law_draws : mg "_law_draws" = some (.ref a_law_draws)
  a_law_take : Addr
  d_law_take : FuncData
  F_law_take : Fun K "_law_take" "_law_take" s_law_take a_law_take d_law_take
  m_law_take : mg "_law_take" = some (.ref a_law_take)
  a_law_options : Addr
  d_law_options : FuncData
  F_law_options : Fun K "_law_options" "_law_options" s_law_options a_law_options d_law_options
  m_law_options : mg "_law_options" = some (.ref a_law_options)
  a_law_distinct : Addr
  d_law_distinct : FuncData
  F_law_distinct : Fun K "_law_distinct" "_law_distinct" s_law_distinct a_law_distinct d_law_distinct
  m_law_distinct : mg "_law_distinct" = some (.ref a_law_distinct)
  a_law_arena : Addr
  d_law_arena : FuncData
  F_law_arena : Fun K "_law_arena" "_law_arena" s_law_arena a_law_arena d_law_arena
  m_law_arena : mg "_law_arena" = some (.ref a_law_arena)
  a_law_some : Addr
  d_law_some : FuncData
  F_law_some : Fun K "_law_some" "_law_some" s_law_some a_law_some d_law_some
  m_law_some : mg "_law_some" = some (.ref a_law_some)
  a_law_is_integer : Addr
  d_law_is_integer : FuncData
  F_law_is_integer : Fun K "_law_is_integer" "_law_is_integer" s_law_is_integer a_law_is_integer d_law_is_integer
  m_law_is_integer : mg "_law_is_integer" = some (.ref a_law_is_integer)
  a_law_kept : Addr
  d_law_kept : FuncData
  F_law_kept : Fun K "_law_kept" "_law_kept" s_law_kept a_law_kept d_law_kept
  m_law_kept : mg "_law_kept" = some (.ref a_law_kept)
  a_law_ring_right : Addr
  d_law_ring_right : FuncData
  F_law_ring_right : Fun K "_law_ring_right" "_law_ring_right" s_law_ring_right a_law_ring_right d_law_ring_right
  m_law_ring_right : mg "_law_ring_right" = some (.ref a_law_ring_right)
  alaw : Addr
  dlaw : FuncData
  Flaw : Fun K "law" "law" slaw alaw dlaw
  mlaw : mg "law" = some (.ref alaw)
theorem Txt.bforces {K : PySem.W.Frag} {mg : Str → Option Value} (T : Txt K mg) : Binds K T.dforces Pforces [] := T.Fforces.binds fun _ _ _ _ _ _ us hl => match us, hl with | [_, _, _], _ => rfl
theorem Txt.b_all_marked {K : PySem.W.Frag} {mg : Str → Option Value} (T : Txt K mg) : Binds K T.d_all_marked P_all_marked [] := T.F_all_marked.binds fun _ _ _ _ _ _ us hl => match us, hl with | [_, _], _ => rfl
theorem Txt.b_some_marked {K : PySem.W.Frag} {mg : Str → Option Value} (T : Txt K mg) : Binds K T.d_some_marked P_some_marked [] := T.F_some_marked.binds fun _ _ _ _ _ _ us hl => match us, hl with | [_, _], _ => rfl
theorem Txt.bsteps_to {K : PySem.W.Frag} {mg : Str → Option Value} (T : Txt K mg) : Binds K T.dsteps_to Psteps_to [] := T.Fsteps_to.binds fun _ _ _ _ _ _ us hl => match us, hl with | [_, _, _, _], _ => rfl
theorem Txt.bleast_beats {K : PySem.W.Frag} {mg : Str → Option Value} (T : Txt K mg) : Binds K T.dleast_beats Pleast_beats [] := T.Fleast_beats.binds fun _ _ _ _ _ _ us hl => match us, hl with | [_, _], _ => rfl
theorem Txt.b_ranks_to {K : PySem.W.Frag} {mg : Str → Option Value} (T : Txt K mg) : Binds K T.d_ranks_to P_ranks_to [] := T.F_ranks_to.binds fun _ _ _ _ _ _ us hl => match us, hl with | [_, _, _], _ => rfl
theorem Txt.b_need {K : PySem.W.Frag} {mg : Str → Option Value} (T : Txt K mg) : Binds K T.d_need P_need [] := T.F_need.binds fun _ _ _ _ _ _ us hl => match us, hl with | [_, _, _], _ => rfl
theorem Txt.b_take_lesser {K : PySem.W.Frag} {mg : Str → Option Value} (T : Txt K mg) : Binds K T.d_take_lesser P_take_lesser [] := T.F_take_lesser.binds fun _ _ _ _ _ _ us hl => match us, hl with | [_, _, _], _ => rfl
theorem Txt.b_law_draws {K : PySem.W.Frag} {mg : Str → Option Value} (T : Txt K mg) : Binds K T.d_law_draws P_law_draws [] := T.F_law_draws.binds fun _ _ _ _ _ _ us hl => match us, hl with | [_, _], _ => rfl
theorem Txt.b_law_take {K : PySem.W.Frag} {mg : Str → Option Value} (T : Txt K mg) : Binds K T.d_law_take P_law_take [] := T.F_law_take.binds fun _ _ _ _ _ _ us hl => match us, hl with | [_, _], _ => rfl
theorem Txt.b_law_options {K : PySem.W.Frag} {mg : Str → Option Value} (T : Txt K mg) : Binds K T.d_law_options P_law_options [] := T.F_law_options.binds fun _ _ _ _ _ _ us hl => match us, hl with | [_, _, _], _ => rfl
theorem Txt.b_law_distinct {K : PySem.W.Frag} {mg : Str → Option Value} (T : Txt K mg) : Binds K T.d_law_distinct P_law_distinct [] := T.F_law_distinct.binds fun _ _ _ _ _ _ us hl => match us, hl with | [_], _ => rfl
theorem Txt.b_law_arena {K : PySem.W.Frag} {mg : Str → Option Value} (T : Txt K mg) : Binds K T.d_law_arena P_law_arena [] := T.F_law_arena.binds fun _ _ _ _ _ _ us hl => match us, hl with | [_, _], _ => rfl
theorem Txt.b_law_some {K : PySem.W.Frag} {mg : Str → Option Value} (T : Txt K mg) : Binds K T.d_law_some P_law_some [] := T.F_law_some.binds fun _ _ _ _ _ _ us hl => match us, hl with | [_, _, _], _ => rfl
theorem Txt.b_law_is_integer {K : PySem.W.Frag} {mg : Str → Option Value} (T : Txt K mg) : Binds K T.d_law_is_integer P_law_is_integer [] := T.F_law_is_integer.binds fun _ _ _ _ _ _ us hl => match us, hl with | [_], _ => rfl
theorem Txt.b_law_kept {K : PySem.W.Frag} {mg : Str → Option Value} (T : Txt K mg) : Binds K T.d_law_kept P_law_kept [] := T.F_law_kept.binds fun _ _ _ _ _ _ us hl => match us, hl with | [_, _, _], _ => rfl
theorem Txt.b_law_ring_right {K : PySem.W.Frag} {mg : Str → Option Value} (T : Txt K mg) : Binds K T.d_law_ring_right P_law_ring_right [] := T.F_law_ring_right.binds fun _ _ _ _ _ _ us hl => match us, hl with | [_, _], _ => rfl
theorem Txt.blaw {K : PySem.W.Frag} {mg : Str → Option Value} (T : Txt K mg) : Binds K T.dlaw Plaw [] := T.Flaw.binds fun _ _ _ _ _ _ us hl => match us, hl with | [_], _ => rfl
end NL

namespace NL
open PySem PySem.Spec PyProof.Rows L2

/-! ### frames: what stays while the list of draws at d is used up -/
structure Go (d : Addr) (H H' : Hp) : Prop where
  fr : ∀ b o, b ≠ d → H b = some o → H' b = some o
  dr : ∃ ns : List Int, H' d = some (.lst (ns.map V.int))
abbrev Dr (H : Hp) (d : Addr) : Prop := ∃ ns : List Int, H d = some (.lst (ns.map V.int))
theorem Go.refl {d : Addr} {H : Hp} (h : Dr H d) : Go d H H := ⟨fun _ _ _ e => e, h⟩
theorem Go.trans {d : Addr} {H H1 H2 : Hp} (a : Go d H H1) (b : Go d H1 H2) : Go d H H2 := ⟨fun c o n e => b.fr c o n (a.fr c o n e), b.dr⟩
theorem Go.new {d p : Addr} {H : Hp} {o : HO} (h : Dr H d) (hp : H p = none) : Go d H (upd H p o) := by
  obtain ⟨ns, e⟩ := h
  have n : d ≠ p := ne_of_none e hp
  exact ⟨fun b u _ q => by rw [upd_ne (ne_of_none q hp)]; exact q, ⟨ns, by rw [upd_ne n]; exact e⟩⟩
theorem Go.put {d : Addr} {H : Hp} (ns : List Int) : Go d H (upd H d (.lst (ns.map V.int))) := ⟨fun b u n q => by rw [upd_ne n]; exact q, ⟨ns, upd_same⟩⟩
theorem Go.same {d : Addr} {H H' : Hp} (h : Dr H d) (s : Same H H') : Go d H H' := ⟨fun b o _ e => s b o e, by obtain ⟨ns, e⟩ := h; exact ⟨ns, s _ _ e⟩⟩
theorem Go.tup {d a : Addr} {H H' : Hp} {xs : List V} (g : Go d H H') (h : Dr H d) (e : H a = some (.tup xs)) : H' a = some (.tup xs) := by
  refine g.fr a _ ?_ e
  rintro rfl
  obtain ⟨ns, q⟩ := h
  rw [e] at q; cases q
theorem same_new {H : Hp} {p : Addr} (h : H p = none) (o : HO) : Same H (upd H p o) := fun b u q => by rw [upd_ne (ne_of_none q h)]; exact q
/-- all tuples stay -/
def Tp (H H' : Hp) : Prop := ∀ a xs, H a = some (.tup xs) → H' a = some (.tup xs)
theorem Go.tp {d : Addr} {H H' : Hp} (g : Go d H H') (h : Dr H d) : Tp H H' := fun _ _ e => g.tup h e
theorem Tp.same {H H' : Hp} (s : Same H H') : Tp H H' := fun _ _ e => s _ _ e
theorem Tp.trans {H H1 H2 : Hp} (a : Tp H H1) (b : Tp H1 H2) : Tp H H2 := fun x y e => b x y (a x y e)
theorem Tp.refl {H : Hp} : Tp H H := fun _ _ e => e
/-- a list that stays readable whatever is drawn at d -/
def Keep (K : PySem.W.Frag) (d : Addr) (H : Hp) (a : Addr) (xs : List V) : Prop := ∀ H', (∀ b o, b ≠ d → H b = some o → H' b = some o) → SqL K H' a xs
theorem Keep.now {K : PySem.W.Frag} {d a : Addr} {H : Hp} {xs : List V} (k : Keep K d H a xs) : SqL K H a xs := k H fun _ _ _ e => e
theorem Keep.go {K : PySem.W.Frag} {d a : Addr} {H H' : Hp} {xs : List V} (k : Keep K d H a xs) (g : Go d H H') : Keep K d H' a xs := fun H2 f => k H2 fun b o n e => f b o n (g.fr b o n e)
theorem Keep.of {K : PySem.W.Frag} {d a : Addr} {H : Hp} {xs : List V} (n : a ≠ d) (h : H a = some (.lst xs)) : Keep K d H a xs := fun H' f => .inl (.inl (f a _ n h))
/-- what was read ahead of the draws' list stays -/
theorem Keep.old {K : PySem.W.Frag} {d a : Addr} {H0 H : Hp} {xs : List V} (h : SqL K H0 a xs) (hd : H0 d = none) (f : ∀ b o, H0 b = some o → H b = some o) : Keep K d H a xs := fun H' g => by
  rcases h with (h | ⟨o, h⟩) | h
  · exact .inl (.inl (g a _ (ne_of_none h hd) (f _ _ h)))
  · exact .inl (.inr ⟨o, g a _ (ne_of_none h hd) (f _ _ h)⟩)
  · exact .inr h

/-! ### rules whose written part is named (in a comprehension) -/
theorem ix_tupK {X : Cx} {K : PySem.W.Frag} (h : X.K = K) : IxR X (rIxT K) := by subst h; exact ix_tup
theorem ix_listK {X : Cx} {K : PySem.W.Frag} (h : X.K = K) : IxR X (rIxL K) := by subst h; exact ix_list
def rTupOf (K : PySem.W.Frag) : List V → Hp → VK → Prop := fun xs H Q => ∃ p ys, xs = [.ref p] ∧ ((SqL K H p ys ∧ ∀ l, H l = none → Q (.ref l) (upd H l (.tup ys))) ∨ (SqT K H p ys ∧ Q (.ref p) H))
theorem call_tuple_ofK {X : Cx} {K : PySem.W.Frag} (h : X.K = K) : CallR X (.type "tuple") (rTupOf K) := by subst h; exact call_tuple_of
/-! ### texts and words -/
/-- signs a to z alone -/
def Wd (z : Str) : Prop := ∀ c ∈ z.cps.toList, 97 ≤ c ∧ c ≤ 122
instance (z : Str) : Decidable (Wd z) := by unfold Wd; infer_instance
def res : List Str := ["true", "false", "add", "sub", "mul", "div", "mod", "min", "max", "abs", "if", "less", "equal", "not", "all", "any"]
theorem app_list (a b : Str) : (a ++ b).cps.toList = a.cps.toList ++ b.cps.toList := by
  show (a.cps ++ b.cps).toList = _
  simp
theorem len_list (a : Str) : a.length = a.cps.toList.length := by
  show a.cps.size = _
  simp
theorem len_app (a b : Str) : (a ++ b).length = a.length + b.length := by
  rw [len_list, app_list, List.length_append, ← len_list, ← len_list]
theorem str_ext {a b : Str} (h : a.cps.toList = b.cps.toList) : a = b := by
  cases a with | mk x => cases b with | mk y =>
  have : x = y := Array.toList_inj.mp h
  rw [this]
theorem Wd.app {a b : Str} (ha : Wd a) (hb : Wd b) : Wd (a ++ b) := fun c hc => by
  rw [app_list] at hc
  rcases List.mem_append.mp hc with h | h
  · exact ha c h
  · exact hb c h
structure Nam (z : Str) : Prop where
  wd : Wd z
  len : 0 < z.length ∧ z.length ≤ 200
  nr : z ∉ res
structure Nm (z : Str) : Prop where
  wd : Wd z
  len : 0 < z.length ∧ z.length ≤ 150

/-! ### lists at an index -/
theorem atI_mem {α : Type} {xs : List α} {i : Int} (h0 : 0 ≤ i) (h1 : i < xs.length) : ∃ v, atI xs i = some v ∧ v ∈ xs := by
  have hk : i.toNat < xs.length := by omega
  have ek : i = ((i.toNat : Nat) : Int) := by omega
  have q : atI xs ((i.toNat : Nat) : Int) = some xs[i.toNat] := atI_nat (List.getElem?_eq_getElem hk)
  rw [← ek] at q
  exact ⟨_, q, List.getElem_mem hk⟩
theorem atI_map {α β : Type} {f : α → β} {xs : List α} {i : Int} (h0 : 0 ≤ i) (h1 : i < xs.length) : ∃ v, atI (xs.map f) i = some (f v) ∧ v ∈ xs := by
  obtain ⟨v, h, m⟩ := atI_mem (xs := xs.map f) h0 (by rw [List.length_map]; exact h1)
  obtain ⟨u, hu, rfl⟩ := List.mem_map.mp m
  exact ⟨u, h, hu⟩
theorem sqd {K : PySem.W.Frag} {H : Hp} {a : Addr} {xs : List V} (h : H a = some (.lst xs)) : SqL K H a xs := .inl (.inl h)
theorem sqt {K : PySem.W.Frag} {H : Hp} {a : Addr} {xs : List V} (h : H a = some (.tup xs)) : SqT K H a xs := .inl (.inl h)
theorem int_eq {i j : Int} (h : decide (V.int i = V.int j) = true) : i = j := V.int.inj (of_decide_eq_true h)
theorem int_ne {i j : Int} (h : ¬ decide (V.int i = V.int j) = true) : i ≠ j := fun e => h (decide_eq_true (by rw [e]))
section
variable {P : Program} {w : World} {K : PySem.W.Frag} {mg : Str → Option Value} {base : Heap}
/-! ### _law_take -/
def spTake : Sp := fun vs H Q _ => ∃ (d : Addr) (m : Int), vs = [.ref d, .int m] ∧ Dr H d ∧ 0 < m ∧ ∀ r H', Go d H H' → 0 ≤ r → r < m → Q (.int r) H'
theorem ok_law_take (T : Txt K mg) : FnOk P w K mg base CX0 1 T.a_law_take T.d_law_take P_law_take spTake := by
  refine T.F_law_take.ok sc_law_take (fun vs H Q E h => ?_) (fun cdv A outer s H vs Q E hr h => ?_)
  · obtain ⟨d, m, rfl, _⟩ := h
    rfl
  obtain ⟨d, m, rfl, hD, hm, q⟩ := h
  refine ⟨_, (pss_cons (ps_if (pt_cmpR op_eq (pe_callB call_len_seq (by rfl) T.z_len PySem.boot_len (pa_cons (pv 0) pa_nil)) pe_int (nomark _))
    (pss_one (ps_ret pe_int))
    pss_nil)
    (pss_one (ps_ret (pe_op op_mod (pe_callTy call_int1 (by rfl) T.z_int (by decide +kernel) (pa_cons (pe_bm0 PySem.F.plainAttrs_list PySem.F.slot_list_pop PySem.F.type_list_pop mt_pop (pv 0)) pa_nil)) (pv 1))))), ?_⟩
  obtain ⟨ns, hd⟩ := hD
  refine ⟨_, rfl, _, _, rfl, .inl (sqd hd), rfl, _, rfl, ?_⟩
  refine ite2 (fun c => ?_) (fun c => ?_)
  · exact q 0 H (Go.refl ⟨ns, hd⟩) (Int.le_refl 0) hm
  · have hn := int_ne c
    rw [List.length_map] at hn
    have hz : ns ≠ [] := by
      rintro rfl
      exact hn rfl
    have hl : 0 < ns.length := List.length_pos_iff.mpr hz
    have he : (ns.map V.int)[(ns.map V.int).length - 1]? = some (.int ns[ns.length - 1]) := by
      rw [List.length_map, List.getElem?_map, List.getElem?_eq_getElem (by omega)]
      rfl
    refine ⟨_, rfl, .inl ⟨rfl, _, sqd hd⟩, _, _, _, rfl, rfl, hd, he, .inl ⟨_, rfl, ?_⟩⟩
    refine ⟨_, rfl, _, _, rfl, rfl, hm, ?_⟩
    refine q _ _ ?_ (Int.emod_nonneg _ (by omega)) (Int.emod_lt_of_pos _ hm)
    rw [← List.map_dropLast]
    exact Go.put _
end
end NL

namespace NL
open PySem PySem.Spec PyProof.Rows L2
theorem yes_if {σ : L2.St} {H : Hp} {a n : Hp → Prop} (h : a H) : tYes σ H (fun b H3 => if b = true then a H3 else n H3) := by
  show (if true = true then a H else n H)
  rw [if_pos rfl]
  exact h
/-- one reading for two ways -/
theorem cutP {B C : Prop} (f : B → C) (b : B) : C := f b
theorem ifT {c : Bool} {A B : Prop} (h : c = true) (a : A) : if c = true then A else B := by
  rw [if_pos h]; exact a
theorem ifF {c : Bool} {A B : Prop} (h : c = false) (b : B) : if c = true then A else B := by
  rw [if_neg (by rw [h]; exact Bool.false_ne_true)]; exact b
theorem atI0 {α : Type} {x : α} {r : List α} : atI (x :: r) 0 = some x := atI_nat (j := 0) rfl
theorem atI1 {α : Type} {x y : α} {r : List α} : atI (x :: y :: r) 1 = some y := atI_nat (j := 1) rfl
theorem boolE {Q : VK} {b b' : Bool} {H : Hp} (h : b = b') (q : Q (.bl b') H) : Q (.bl b) H := by rw [h]; exact q
theorem big {n : Nat} (h : n ≤ 1000000) : n ≤ sizeLine := Nat.le_trans h (by decide)
theorem big' {n : Nat} (h : n ≤ 1000000) : n < sizeLine := Nat.lt_of_le_of_lt h (by decide)
theorem int_in {x : Int} {l : List Int} : inV (.int x) (l.map V.int) = decide (x ∈ l) := by
  unfold inV
  rw [List.any_map]
  induction l with
  | nil => rfl
  | cons a r ih =>
    rw [List.any_cons, ih]
    show (eqV (.int a) (.int x) || _) = _
    have e : eqV (.int a) (.int x) = decide (x = a) := by
      show (a == x) = _
      rw [Bool.beq_eq_decide_eq]
      exact decide_eq_decide.mpr ⟨fun h => h.symm, fun h => h.symm⟩
    rw [e, ← Bool.decide_or]
    exact decide_eq_decide.mpr List.mem_cons.symm
theorem flat_ints' (l : List Int) : (l.map V.int).all flatV = true := by
  induction l with
  | nil => rfl
  | cons a r ih => rw [List.map_cons, List.all_cons, ih]; rfl
theorem notIn_int {x : Int} {l : List Int} : (if true = true then !inV (V.int x) (l.map V.int) else inV (V.int x) (l.map V.int)) = !decide (x ∈ l) := by
  rw [if_pos rfl, int_in]
def rLenK (K : PySem.W.Frag) : List V → Hp → VK → Prop := fun xs H Q => ∃ p ys, xs = [.ref p] ∧ (SqL K H p ys ∨ SqT K H p ys) ∧ Q (.int (ys.length : Nat)) H
theorem call_len_seqK {X : Cx} {K : PySem.W.Frag} (h : X.K = K) : CallR X (.builtin "len") (rLenK K) := by
  subst h
  exact call_len_seq
end NL

namespace NL
open PySem PySem.Spec PyProof.Rows L2
theorem ixN_in {n : Nat} {k : Int} (h0 : 0 ≤ k) (h1 : k < n) : ixN n k = some k.toNat := by
  unfold ixN
  rw [if_pos h0, if_pos h1]
/-- a change at what was not there before -/
theorem same_put {H H' : Hp} {p : Addr} {o : HO} (s : Same H H') (hp : H p = none) : Same H (upd H' p o) := fun b u e => by
  rw [upd_ne (ne_of_none e hp)]
  exact s b u e
section
variable {P : Program} {w : World} {K : PySem.W.Frag} {mg : Str → Option Value} {base : Heap}
def spDraws (K : PySem.W.Frag) : Sp := fun vs H Q _ => ∃ (a : Addr) (ns : List Int) (m : Int), vs = [.ref a, .int m] ∧ SqL K H a (ns.map V.int) ∧ ns.length ≤ 63 ∧ 0 ≤ m ∧ m ≤ 10000 ∧
  ∀ d H', Same H H' → H d = none → Dr H' d → Q (.ref d) H'
theorem ok_law_draws (T : Txt K mg) : FnOk P w K mg base CX0 1 T.a_law_draws T.d_law_draws P_law_draws (spDraws K) := by
  refine T.F_law_draws.ok sc_law_draws (fun vs H Q E h => ?_) (fun cdv A outer s H vs Q E hr h => ?_)
  · obtain ⟨a, ns, m, rfl, _⟩ := h
    rfl
  obtain ⟨a, ns, m, rfl, hS, hl, m0, m1, q⟩ := h
  refine ⟨_, (pss_cons (ps_setLc (i := 2) (own := [("cell", 3)]) (g := (gName 3)) (tt := tYes) rfl sc_law_draws.nd rfl rfl (sw_true rfl rfl rfl (by decide +kernel)) (pi_list (pv 0)) (blkOk_by (N := N_law_draws) (sc := defScope s_law_draws) (by decide +kernel)) (fun _ _ _ _ _ => (pg_name (i := 3) sc_law_draws.nd rfl (Or.inl rfl))) (fun _ _ _ _ _ => pts_nil) (fun _ _ _ _ _ => (pe_callTy call_int1 (by rfl) T.z_int (by decide +kernel) (pa_cons (pv 3) pa_nil))))
    (C8.pss_cut (ps_if (pt_cmpR op_eq (pe_callB call_len_seq (by rfl) T.z_len PySem.boot_len (pa_cons (pv 2) pa_nil)) pe_int (nomark _))
    (pss_one (ps_expr (pe_bm PySem.F.plainAttrs_list PySem.F.slot_list_append PySem.F.type_list_append mt_append (pv 2) (pa_cons pe_int pa_nil))))
    pss_nil)
    (pss_cons (ps_set (i := 4) sc_law_draws.nd rfl (Or.inl rfl) (pe_callTy call_list_of (by rfl) T.z_list (by decide +kernel) (pa_cons (pv 2) pa_nil)))
    (pss_cons (ps_set (i := 5) sc_law_draws.nd rfl (Or.inl rfl) (pe_lst pa_nil))
    (pss_cons (ps_for  PassesOwn.never rfl (pi_range1 (by rfl) T.z_range (pa_cons (pv 1) pa_nil)) (pg_name (i := 6) sc_law_draws.nd rfl (Or.inl rfl))
    (pss_cons (ps_set (i := 7) sc_law_draws.nd rfl (Or.inl rfl) (pe_op op_mod (pv 6) (pe_callB call_len_seq (by rfl) T.z_len PySem.boot_len (pa_cons (pv 2) pa_nil))))
    (pss_one (ps_if (pt_cmpR op_ge (pe_ix ix_list (pv 2) (pv 7) (fun _ _ => rfl)) (pe_op op_pow pe_int pe_int) (nomark _))
    (pss_cons (ps_expr (pe_bm PySem.F.plainAttrs_list PySem.F.slot_list_append PySem.F.type_list_append mt_append (pv 5) (pa_cons (pe_op op_mod (pe_callTy call_int1 (by rfl) T.z_int (by decide +kernel) (pa_cons (pe_ix ix_list (pv 4) (pv 7) (fun _ _ => rfl)) pa_nil)) pe_int) pa_nil)))
    (pss_one (ps_asg (pe_op op_fdiv (pe_ix ix_list (pv 4) (pv 7) (fun _ _ => rfl)) pe_int) (pg_sub (pv 4) (pv 7) set_list))))
    (pss_cons (ps_set (i := 8) sc_law_draws.nd rfl (Or.inl rfl) (pe_op op_mod (pe_callTy call_int1 (by rfl) T.z_int (by decide +kernel) (pa_cons (pe_op op_add (pe_op op_add (pe_op op_mul (pe_ix ix_list (pv 2) (pv 7) (fun _ _ => rfl)) pe_int) (pe_op op_mul (pv 6) pe_int)) pe_int) pa_nil)) pe_int))
    (pss_one (ps_expr (pe_bm PySem.F.plainAttrs_list PySem.F.slot_list_append PySem.F.type_list_append mt_append (pv 5) (pa_cons (pe_op op_mod (pe_callTy call_int1 (by rfl) T.z_int (by decide +kernel) (pa_cons (pe_op op_add (pe_op op_add (pe_op op_mul (pv 8) (pv 8)) (pe_op op_mul pe_int (pv 8))) (pv 6)) pa_nil)) pe_int) pa_nil)))))))))
    (pss_cons (ps_expr (pe_bm0 PySem.F.plainAttrs_list PySem.F.slot_list_reverse PySem.F.type_list_reverse mt_reverse (pv 5)))
    (pss_one (ps_ret (pv 5))))))))), ?_⟩
  -- cells
  refine ⟨_, rfl, a, rfl, ⟨_, hS⟩, fun c hc => ?_⟩
  refine lc_list (K := K) (a := a) (xs := ns.map V.int) (fun (j : Nat) (H' : Hp) => Same H H' ∧ H' c = some (.lst ((ns.take j).map V.int))) ?_ ?_ ?_ ?_
  · exact ⟨same_new hc _, by rw [upd_same, List.take_zero]; rfl⟩
  · rintro i H' _ ⟨s1, _⟩
    exact s1.seq hS
  · rintro i x H' hx ⟨s1, e1⟩
    rw [List.getElem?_map] at hx
    cases hn : ns[i]? with
    | none => rw [hn] at hx; cases hx
    | some n =>
      rw [hn] at hx
      obtain rfl : V.int n = x := Option.some.inj hx
      refine ⟨rfl, yes_if ?_⟩
      refine ⟨_, rfl, .inl ⟨n, rfl, _, e1, ?_, same_put s1 hc, ?_⟩⟩
      · rw [List.length_map, List.length_take]
        exact big' (by omega)
      · rw [upd_same, List.take_add_one, hn, List.map_append]
        rfl
  · rintro H1 ⟨s1, e1⟩
    rw [List.length_map, List.take_length] at e1
    -- at least one cell
    refine ⟨fun σ H2 => ∃ cs : List Int, cs ≠ [] ∧ cs.length ≤ 63 ∧ σ = [some (.ref a), some (.int m), some (.ref c), none, none, none, none, none, none] ∧ Same H H2 ∧ H2 c = some (.lst (cs.map V.int)), ?_, ?_⟩
    · refine ⟨_, rfl, _, _, rfl, .inl (sqd e1), rfl, _, rfl, ?_⟩
      refine ite2 (fun z => ?_) (fun z => ?_)
      · refine ⟨_, rfl, .inl ⟨rfl, _, sqd e1⟩, c, _, _, rfl, rfl, e1, ?_, ?_⟩
        · rw [List.length_map]
          exact big' (by omega)
        · have hz := int_eq z
          rw [List.length_map] at hz
          have : ns = [] := List.length_eq_zero_iff.mp (by omega)
          subst this
          exact ⟨[0], by simp, by decide, rfl, same_put s1 hc, upd_same⟩
      · have hz := int_ne z
        rw [List.length_map] at hz
        refine ⟨ns, ?_, hl, rfl, s1, e1⟩
        rintro rfl
        exact hz rfl
    · rintro σ H2 ⟨cs, hcs, hcl, rfl, s2, e2⟩
      have hpos : 0 < cs.length := List.length_pos_iff.mpr hcs
      -- rest, draws
      refine ⟨_, rfl, _, _, rfl, .inl (sqd e2), fun r hr2 => ?_⟩
      have ncr : c ≠ r := ne_of_none e2 hr2
      refine ⟨(Nat.le_of_ble_eq_true rfl), fun d hd => ?_⟩
      have ncd : c ≠ d := ne_of_none (by rw [upd_ne ncr]; exact e2) hd
      have nrd : r ≠ d := ne_of_none upd_same hd
      have hHr : H r = none := s2.free hr2
      have hHd : H d = none := (s2.trans (same_new hr2 _)).free hd
      refine ⟨_, rfl, m, rfl, by omega, by omega, for_range (lo := 0) (n := m.toNat) (fun (j : Nat) (σ : L2.St) (H' : Hp) => ∃ (rs ds : List Int) (y1 y2 y3 : Option V), σ = [some (.ref a), some (.int m), some (.ref c), none, some (.ref r), some (.ref d), y1, y2, y3] ∧ Same H H' ∧ H' c = some (.lst (cs.map V.int)) ∧ H' r = some (.lst (rs.map V.int)) ∧ rs.length = cs.length ∧ H' d = some (.lst (ds.map V.int)) ∧ ds.length ≤ j) ?_ ?_ ?_⟩
      · refine ⟨cs, [], none, none, none, rfl, (s2.trans (same_new hr2 _)).trans (same_new hd _), ?_, ?_, rfl, upd_same, Nat.le_refl _⟩
        · rw [upd_ne ncd, upd_ne ncr]; exact e2
        · rw [upd_ne nrd]; exact upd_same
      · rintro j σ H' hj ⟨rs, ds, y1, y2, y3, rfl, s3, ec, er, hrl, ed, hdl⟩
        have b0 := Int.emod_nonneg ((0 : Int) + (j : Int)) (show (((cs.map V.int).length : Nat) : Int) ≠ 0 by rw [List.length_map]; omega)
        have b1 : (((0 : Int) + (j : Int)) % (((cs.map V.int).length : Nat) : Int)) < (cs.length : Int) := by
          have h := Int.emod_lt_of_pos ((0 : Int) + (j : Int)) (show 0 < (((cs.map V.int).length : Nat) : Int) by rw [List.length_map]; omega)
          rw [List.length_map] at h ⊢
          exact h
        refine ⟨_, rfl, _, rfl, _, _, rfl, .inl (sqd ec), _, _, rfl, rfl, (by show 0 < (((cs.map V.int).length : Nat) : Int); rw [List.length_map]; omega), ?_⟩
        obtain ⟨cv, hcv, _⟩ := atI_map (f := V.int) (xs := cs) b0 b1
        obtain ⟨rv, hrv, _⟩ := atI_map (f := V.int) (xs := rs) b0 (by omega)
        refine ⟨_, rfl, _, rfl, _, _, _, _, rfl, rfl, sqd ec, hcv, _, _, rfl, rfl, ⟨by decide, by decide, by decide⟩, _, _, rfl, rfl, _, rfl, ?_⟩
        refine ite2 (fun z => ?_) (fun z => ?_)
        · refine ⟨_, rfl, .inl ⟨rfl, _, sqd ed⟩, _, rfl, _, rfl, _, _, _, _, rfl, rfl, sqd er, hrv, .inl ⟨_, rfl, _, _, rfl, rfl, (by show (0 : Int) < 1000; decide), d, _, _, rfl, rfl, ed, ?_, ?_⟩⟩
          · rw [List.length_map]
            exact big' (by omega)
          · have er2 : ∀ o, (upd H' d o) r = some (.lst (rs.map V.int)) := fun o => by rw [upd_ne nrd]; exact er
            refine ⟨_, rfl, _, rfl, _, _, _, _, rfl, rfl, sqd (er2 _), hrv, _, _, rfl, rfl, ⟨by decide, by decide⟩, _, rfl, _, rfl, r, _, _, _, rfl, rfl, er2 _, ixN_in b0 (by have h : (rs.map V.int).length = rs.length := List.length_map _; omega), ?_⟩
            refine ⟨rs.set (((0 : Int) + (j : Int)) % (((cs.map V.int).length : Nat) : Int)).toNat (rv / 1000), ds ++ [rv % 1000], _, _, _, rfl, same_put (same_put s3 hHd) hHr, ?_, ?_, ?_, ?_, ?_⟩
            · rw [upd_ne ncr, upd_ne ncd]; exact ec
            · rw [upd_same, List.map_set]
            · rw [List.length_set]; exact hrl
            · rw [upd_ne nrd.symm, upd_same, List.map_append]; rfl
            · rw [List.length_append, List.length_singleton]; omega
        · have o0 := fun z : Int => Int.emod_nonneg z (by decide : (2147483647 : Int) ≠ 0)
          have o1 := fun z : Int => Int.emod_lt_of_pos z (by decide : (0 : Int) < 2147483647)
          refine ⟨_, rfl, _, rfl, _, _, _, _, rfl, rfl, sqd ec, hcv, _, _, rfl, rfl, .inr ⟨by decide, by decide⟩, _, rfl, _, _, rfl, rfl, .inr ⟨by decide, by decide⟩, _, _, rfl, rfl, _, _, rfl, rfl, .inl ⟨_, rfl, _, _, rfl, rfl, (by show (0 : Int) < 2147483647; decide), ?_⟩⟩
          refine ⟨_, rfl, .inl ⟨rfl, _, sqd ed⟩, _, rfl, _, rfl, _, _, rfl, rfl, ?_, ?_⟩
          · left
            have h1 := o0 (cv * 48271 + (0 + (j : Int)) * 69621 + 11)
            have h2 := o1 (cv * 48271 + (0 + (j : Int)) * 69621 + 11)
            constructor
            · show -(2 ^ 64) < _
              omega
            · show _ < 2 ^ 64
              omega
          · refine ⟨_, rfl, _, _, rfl, rfl, .inl ⟨by decide, by decide⟩, _, _, rfl, rfl, _, rfl, _, _, rfl, rfl, .inl ⟨_, rfl, _, _, rfl, rfl, (by show (0 : Int) < 1000003; decide), d, _, _, rfl, rfl, ed, ?_, ?_⟩⟩
            · rw [List.length_map]
              exact big' (by omega)
            · refine ⟨rs, ds ++ [(((cv * 48271 + (0 + (j : Int)) * 69621 + 11) % 2147483647) * ((cv * 48271 + (0 + (j : Int)) * 69621 + 11) % 2147483647) + 3 * ((cv * 48271 + (0 + (j : Int)) * 69621 + 11) % 2147483647) + (0 + (j : Int))) % 1000003], _, _, _, rfl, same_put s3 hHd, ?_, ?_, hrl, ?_, ?_⟩
              · rw [upd_ne ncd]; exact ec
              · rw [upd_ne nrd]; exact er
              · rw [upd_same, List.map_append]; rfl
              · rw [List.length_append, List.length_singleton]; omega
      · rintro σ H' ⟨rs, ds, y1, y2, y3, rfl, s3, ec, er, hrl, ed, hdl⟩
        refine ⟨_, rfl, .inl ⟨rfl, _, sqd ed⟩, d, _, rfl, rfl, ed, ?_⟩
        refine ⟨_, rfl, q d _ (same_put s3 hHd) hHd ⟨ds.reverse, ?_⟩⟩
        rw [upd_same, List.map_reverse]
end
end NL

namespace NL
open PySem PySem.Spec PyProof.Rows L2
/-! ### rows and what stands in them -/
def Each {α : Type} (R : α → V → Prop) (l : List α) (xs : List V) : Prop := xs.length = l.length ∧ ∀ (k : Nat) a x, l[k]? = some a → xs[k]? = some x → R a x
theorem Each.nil {α : Type} {R : α → V → Prop} : Each R [] [] := ⟨rfl, fun k a x h => by simp at h⟩
theorem Each.mono {α : Type} {R S : α → V → Prop} {l : List α} {xs : List V} (h : Each R l xs) (f : ∀ a x, R a x → S a x) : Each S l xs := ⟨h.1, fun k a x e g => f a x (h.2 k a x e g)⟩
theorem Each.cons {α : Type} {R : α → V → Prop} {l : List α} {xs : List V} {a : α} {x : V} (r : R a x) (h : Each R l xs) : Each R (a :: l) (x :: xs) := ⟨by rw [List.length_cons, List.length_cons, h.1], fun k b y e g => by
  cases k with
  | zero => cases e; cases g; exact r
  | succ k => exact h.2 k b y e g⟩
theorem Each.app {α : Type} {R : α → V → Prop} {l m : List α} {xs ys : List V} (h : Each R l xs) (g : Each R m ys) : Each R (l ++ m) (xs ++ ys) := by
  refine ⟨by rw [List.length_append, List.length_append, h.1, g.1], fun k r x e f => ?_⟩
  by_cases hk : k < l.length
  · rw [List.getElem?_append_left hk] at e
    rw [List.getElem?_append_left (by rw [h.1]; exact hk)] at f
    exact h.2 k r x e f
  · rw [List.getElem?_append_right (by omega)] at e
    rw [List.getElem?_append_right (by rw [h.1]; omega), h.1] at f
    exact g.2 _ r x e f
theorem Each.snoc {α : Type} {R : α → V → Prop} {l : List α} {xs : List V} {a : α} {x : V} (h : Each R l xs) (r : R a x) : Each R (l ++ [a]) (xs ++ [x]) := h.app (.cons r .nil)
theorem Each.take {α : Type} {R : α → V → Prop} {l : List α} {xs : List V} (h : Each R l xs) (n : Nat) : Each R (l.take n) (xs.take n) := ⟨by rw [List.length_take, List.length_take, h.1], fun k a x e g => by
  rw [List.getElem?_take] at e g
  split at e
  · rename_i hk
    rw [if_pos hk] at g
    exact h.2 k a x e g
  · cases e⟩
theorem Each.drop {α : Type} {R : α → V → Prop} {l : List α} {xs : List V} (h : Each R l xs) (n : Nat) : Each R (l.drop n) (xs.drop n) := ⟨by rw [List.length_drop, List.length_drop, h.1], fun k a x e g => by
  rw [List.getElem?_drop] at e g
  exact h.2 _ a x e g⟩
theorem Each.set {α : Type} {R : α → V → Prop} {l : List α} {xs : List V} {a : α} {x : V} (h : Each R l xs) (n : Nat) (r : R a x) : Each R (l.set n a) (xs.set n x) := ⟨by rw [List.length_set, List.length_set, h.1], fun k b y e g => by
  rw [List.getElem?_set] at e g
  by_cases hk : n = k
  · rw [if_pos hk] at e g
    by_cases hl : n < l.length
    · rw [if_pos hl] at e
      rw [if_pos (by rw [h.1]; exact hl)] at g
      cases e; cases g; exact r
    · rw [if_neg hl] at e
      cases e
  · rw [if_neg hk] at e g
    exact h.2 k b y e g⟩
theorem Each.at {α : Type} {R : α → V → Prop} {l : List α} {xs : List V} {a : α} {k : Nat} (h : Each R l xs) (e : l[k]? = some a) : ∃ x, xs[k]? = some x ∧ R a x := by
  have hk : k < xs.length := by
    rw [h.1]
    exact (List.getElem?_eq_some_iff.mp e).1
  exact ⟨_, List.getElem?_eq_getElem hk, h.2 k a _ e (List.getElem?_eq_getElem hk)⟩
theorem Each.atI {α : Type} {R : α → V → Prop} {l : List α} {xs : List V} {i : Int} (h : Each R l xs) (h0 : 0 ≤ i) (h1 : i < l.length) : ∃ a x, l[i.toNat]? = some a ∧ atI xs i = some x ∧ R a x := by
  have hk : i.toNat < l.length := by omega
  obtain ⟨x, hx, r⟩ := h.at (List.getElem?_eq_getElem hk)
  have q : L2.atI xs ((i.toNat : Nat) : Int) = some x := atI_nat hx
  rw [show ((i.toNat : Nat) : Int) = i by omega] at q
  exact ⟨_, x, List.getElem?_eq_getElem hk, q, r⟩
/-! ### options, positions, arenas -/
abbrev Opt := List Int
abbrev Pos' := List Opt
abbrev Ar := List Pos'
def OptIn (H : Hp) (o : Opt) (v : V) : Prop := ∃ b, v = .ref b ∧ H b = some (.tup (o.map V.int))
def PosIn (H : Hp) (os : Pos') (v : V) : Prop := ∃ b xs, v = .ref b ∧ H b = some (.tup xs) ∧ Each (OptIn H) os xs
def ArIn (H : Hp) (A : Ar) (v : V) : Prop := ∃ b xs, v = .ref b ∧ H b = some (.tup xs) ∧ Each (PosIn H) A xs
theorem OptIn.tp {H H' : Hp} {o : Opt} {v : V} (t : Tp H H') (h : OptIn H o v) : OptIn H' o v := by
  obtain ⟨b, e, q⟩ := h
  exact ⟨b, e, t _ _ q⟩
theorem PosIn.tp {H H' : Hp} {o : Pos'} {v : V} (t : Tp H H') (h : PosIn H o v) : PosIn H' o v := by
  obtain ⟨b, xs, e, q, r⟩ := h
  exact ⟨b, xs, e, t _ _ q, r.mono fun a x => OptIn.tp t⟩
theorem ArIn.tp {H H' : Hp} {o : Ar} {v : V} (t : Tp H H') (h : ArIn H o v) : ArIn H' o v := by
  obtain ⟨b, xs, e, q, r⟩ := h
  exact ⟨b, xs, e, t _ _ q, r.mono fun a x => PosIn.tp t⟩
/-- an option of an arena with n positions -/
structure OptG (n : Int) (o : Opt) : Prop where
  ne : o ≠ []
  len : o.length ≤ 60
  mem : ∀ s ∈ o, -1 ≤ s ∧ s < n
  asc : o.Pairwise (· < ·)
def PosG (n : Int) (os : Pos') : Prop := os.length ≤ 12 ∧ ∀ o ∈ os, OptG n o
def ArG (A : Ar) : Prop := A.length ≤ 400 ∧ ∀ os ∈ A, PosG A.length os
theorem OptG.one {n s : Int} (h0 : -1 ≤ s) (h1 : s < n) : OptG n [s] := ⟨by simp, by simp, fun t ht => by rw [List.mem_singleton.mp ht]; exact ⟨h0, h1⟩, List.pairwise_singleton _ _⟩
theorem asc_of {l m : List Int} (h : l.Perm m) (hm : m.Nodup) (hp : l.Pairwise (· ≤ ·)) : l.Pairwise (· < ·) := by
  have hn : l.Nodup := h.nodup_iff.mpr hm
  refine (hp.and hn).imp fun {a b} h => ?_
  obtain ⟨h1, h2⟩ := h
  omega
theorem tp_put {H H' : Hp} {p : Addr} {o : List V} {o' : HO} (t : Tp H H') (h : H' p = some (.lst o)) : Tp H (upd H' p o') := fun a xs e => by
  have n : a ≠ p := fun q => by
    have := t a xs e
    rw [q, h] at this
    cases this
  rw [upd_ne n]
  exact t a xs e
theorem Go.put2 {d p : Addr} {H H' : Hp} {o : HO} (g : Go d H H') (hp : H p = none) (n : p ≠ d) : Go d H (upd H' p o) := ⟨fun b u hb e => by
  rw [upd_ne (ne_of_none e hp)]
  exact g.fr b u hb e, by
  obtain ⟨ns, e⟩ := g.dr
  exact ⟨ns, by rw [upd_ne n.symm]; exact e⟩⟩
theorem new_ne {d p : Addr} {H : Hp} (h : Dr H d) (hp : H p = none) : p ≠ d := by
  rintro rfl
  obtain ⟨ns, e⟩ := h
  rw [hp] at e
  cases e
theorem Go.free {d p : Addr} {H H' : Hp} (g : Go d H H') (hp : H' p = none) : H p = none := by
  cases e : H p with
  | none => rfl
  | some o =>
    by_cases hd : p = d
    · obtain ⟨ns, q⟩ := g.dr
      rw [hd, q] at hp
      cases hp
    · rw [g.fr p o hd e] at hp
      cases hp
end NL

namespace NL
open PySem PySem.Spec PyProof.Rows L2
theorem cut_tl {x : V} {r : List V} : cutV (x :: r) (some 1) none = r := by
  unfold cutV
  rw [show HT.sIx (x :: r).length 0 (some 1) = min 1 (x :: r).length from HT.sIx_nat _ _ 1, HT.sIx_none, List.length_cons, show min 1 (r.length + 1) = 1 by omega]
  simp
theorem asc_lt {l : List Int} (h : l.Pairwise (· < ·)) : l.Nodup := h.imp fun {a b} h e => by omega
theorem newH {H : Hp} {p : Addr} (hp : H p = none) (o : HO) : ∃ H', upd H p o = H' ∧ Same H H' ∧ H' p = some o := ⟨_, rfl, same_new hp _, upd_same⟩
section
variable {P : Program} {w : World} {K : PySem.W.Frag} {mg : Str → Option Value} {base : Heap}
/-! ### _law_great -/
def spGreat : Sp := fun vs H Q _ => ∃ d : Addr, vs = [.ref d] ∧ Dr H d ∧ ∀ v A H', Go d H H' → ArIn H' A v → ArG A → Q v H'
end
end NL

namespace NL
open PySem PySem.Spec PyProof.Rows L2
theorem ints_snoc2 (ps : List Int) (l : Int) : (ps ++ [l]).map V.int = ps.map V.int ++ [V.int l] := by
  rw [List.map_append]
  rfl
theorem at_last {α : Type} {x : α} {xs : List α} : atI (xs ++ [x]) (-1) = some x := by
  unfold atI
  rw [show ixN (xs ++ [x]).length (-1) = some xs.length by
    unfold ixN
    rw [if_neg (by decide), if_pos (by rw [List.length_append, List.length_singleton]; omega), List.length_append, List.length_singleton]
    congr 1
    omega]
  simp
theorem lc_pairs {K : PySem.W.Frag} {a b : Addr} {xs ys : List V} {g : TG} {tt : TT} {te : TE} {vs : List Nat} {σ : L2.St} {H1 : Hp} {D : Addr} {Qd : Hp → Prop} (n : Nat) (hn : n = min xs.length ys.length) (Pv : Nat → Hp → Prop) (h0 : Pv 0 (upd H1 D (.lst []))) (hq : ∀ i H, Pv i H → SqT K H a xs ∧ SqT K H b ys)
    (hs : ∀ (i : Nat) (x y : V) (t : Addr) (H : Hp), xs[i]? = some x → ys[i]? = some y → Pv i H → H t = none → g (.ref t) (wipe σ vs) (upd H t (.tup [x, y])) fun σ2 H2 => wipe σ2 vs = wipe σ vs ∧ tt σ2 H2 fun c H3 =>
      if c = true then te σ2 H3 fun z H4 => ∃ acc, H4 D = some (.lst acc) ∧ acc.length < sizeLine ∧ Pv (i + 1) (upd H4 D (.lst (acc ++ [z]))) else Pv (i + 1) H3) (hd : ∀ H, Pv n H → Qd H) :
    ∃ W : Nat → Nat → Hp → Prop, (∃ m, W 0 m (upd H1 D (.lst []))) ∧ ∀ i m H, W i m H →
      ((RZ.ItzT K a b).stop i H ∧ Qd H) ∨ ((RZ.ItzT K a b).go i H ∧ ∃ Nx : Hp → Prop, (∀ H', Nx H' → ∃ m', m' < m ∧ W (i + 1) m' H') ∧ ∀ x H', (RZ.ItzT K a b).yld i H x H' → g x (wipe σ vs) H' fun σ2 H2 => wipe σ2 vs = wipe σ vs ∧ tt σ2 H2 fun c H3 =>
        if c = true then te σ2 H3 fun z H4 => ∃ acc, H4 D = some (.lst acc) ∧ acc.length < sizeLine ∧ Nx (upd H4 D (.lst (acc ++ [z]))) else Nx H3) := by
  refine ⟨fun i m H => m + i = n ∧ Pv i H, ⟨n, rfl, h0⟩, ?_⟩
  rintro i m H ⟨hi, p⟩
  obtain ⟨qx, qy⟩ := hq i H p
  by_cases lt : i < n
  · have ex : xs[i]? = some xs[i] := List.getElem?_eq_getElem (by omega)
    have ey : ys[i]? = some ys[i] := List.getElem?_eq_getElem (by omega)
    refine .inr ⟨⟨xs, ys, _, _, qx, qy, ex, ey⟩, Pv (i + 1), fun H' p' => ⟨m - 1, by omega, by omega, p'⟩, fun v H' y => ?_⟩
    obtain ⟨t, x1, y1, rfl, ht, rfl, f1, f2⟩ := y
    exact hs i x1 y1 t H (f1 xs qx) (f2 ys qy) p ht
  · have e : i = n := by omega
    subst e
    exact .inl ⟨⟨xs, ys, qx, qy, by omega⟩, hd H p⟩
theorem op_catAK {X : Cx} {K : PySem.W.Frag} (h : X.K = K) : OpR X (binaryOp .Add) (rCatA K) := by subst h; exact op_catA
end NL

set_option maxHeartbeats 4000000
namespace NL
open PySem PySem.Spec PyProof.Rows L2
/-! ### enumerate of a tuple -/
theorem draws_tup {P : Program} {w : World} {A : Around} (cold : A.handled = none) (j l : Addr) (apart : l ≠ j) (vs : Array Value) : Draws P w A j [j, l] vs.size (fun i v => vs[i]? = some v) (fun i h => h.IsTupleIter j l i ∧ h.IsTuple l vs) where
  live := fun _ _ st => by
    obtain ⟨⟨o, ho, _⟩, _⟩ := st
    exact ⟨o, ho⟩
  frame := fun _ _ _ st hold => by
    obtain ⟨st1, o, ho, hr⟩ := st
    exact ⟨st1.at fun ob e => hold j (by simp) ob e, o, hold l (by simp) o ho, hr⟩
  item := fun i s Q E hi st hQ => by
    refine RZ.nextOf_tuple_item st.1 st.2 (x := vs[i]) (by simp [hi]) fun g st1 sb => ?_
    refine hQ _ g s.toks (by simp [hi]) ⟨st1, ?_⟩ sb
    obtain ⟨o, ho, hr⟩ := st.2
    exact ⟨o, (sb.2 l apart).trans ho, hr⟩
  done := fun s Q E st hE => RZ.nextOf_tuple_end cold st.1 st.2 (by simp) hE
theorem enum_newT (l : Addr) (vs : Array Value) :
    Meets (Builtin.«enumerate.__new__» ⟨[.type "enumerate", .ref l], []⟩) (fun _ R s => s.heap.IsTuple l vs ∧
      R (.ok (.ret (.ref (s.heap.push { cls := .type "tuple_iterator", data := .fields #[.ref l, .int 0 0] }).objs.size)))
        { s with heap := (s.heap.push { cls := .type "tuple_iterator", data := .fields #[.ref l, .int 0 0] }).push { cls := .type "enumerate", data := .fields #[.none, .bool false, .ref s.heap.objs.size, rawInt 0, .none, .none] } }) :=
  .of_wp fun P w A R s r => by
    obtain ⟨hp, gs, dr, tk, os⟩ := s
    obtain ⟨tu, r⟩ := r
    have hsub := sub_enumerate
    have T2 : Heap.IsTuple (Shared.heap ⟨hp, gs, dr, tk, os⟩) l vs := tu
    obtain ⟨⟨c, dct, dt, sl⟩, hl, hc, n, hd⟩ := tu
    replace hc : c = .type "tuple" := hc
    replace hd : dt = .seq vs n := hd
    subst hc hd
    wp_walk using AutoSeq1.wpAny_loadPart' hl
    refine wpAny_stack_any fun st => wpAny_pure ?_
    split
    · rename_i c2 _ _ _ _ _
      cases (c2 == Value.type "enumerate")
      · wp_walk using AutoSeq1.wpAny_loadPart' hl, wpAny_pyIter_tuple T2
        exact ⟨_, rfl, r⟩
      · wp_walk using AutoSeq1.wpAny_loadPart' hl, wpAny_pyIter_tuple T2
        exact ⟨_, rfl, r⟩
    · wp_walk using AutoSeq1.wpAny_loadPart' hl, wpAny_pyIter_tuple T2
      exact ⟨_, rfl, r⟩
theorem enum_callT {P : Program} {w : World} {A : Around} {E : Value → Shared → Prop} {s : Shared} {l : Addr} {vs : Array Value} {Q : Value → Shared → Prop} (tu : s.heap.IsTuple l vs)
    (k : ∀ g, IsEnum g (s.heap.objs.size + 1) s.heap.objs.size 0 .none → g.IsTupleIter s.heap.objs.size l 0 → (∀ b o, s.heap.get? b = some o → g.get? b = some o) → Q (.ref (s.heap.objs.size + 1)) { s with heap := g }) :
    wpAny (model P w) A (call (.type "enumerate") [.ref l]) Q E s := by
  refine callType_new F.called_enumerate (by decide) (F.typeCall_enumerate_1 _) (F.newCall_enumerate_1 _) (fun ob => F.args_object_init_2 ob _) F.entry_enumerate_new (enum_newT l vs) ⟨tu, ?_⟩
  have sz : (s.heap.push { cls := .type "tuple_iterator", data := .fields #[.ref l, .int 0 0] }).objs.size = s.heap.objs.size + 1 := Heap.size_push ..
  show _ ∧ _
  rw [sz]
  have isE : IsEnum ((s.heap.push { cls := .type "tuple_iterator", data := .fields #[.ref l, .int 0 0] }).push { cls := .type "enumerate", data := .fields #[.none, .bool false, .ref s.heap.objs.size, rawInt 0, .none, .none] }) (s.heap.objs.size + 1) s.heap.objs.size 0 .none := by
    have top := Heap.get?_push_size (s.heap.push { cls := .type "tuple_iterator", data := .fields #[.ref l, .int 0 0] }) (o := { cls := .type "enumerate", data := .fields #[.none, .bool false, .ref s.heap.objs.size, rawInt 0, .none, .none] }) rfl
    rw [sz] at top
    exact top
  exact ⟨⟨_, isE, rfl⟩, k _ isE ⟨_, Heap.get?_push_of_some _ (Heap.get?_push_size _ rfl), rfl, rfl⟩ fun b o e => Heap.get?_push_of_some _ (Heap.get?_push_of_some _ e)⟩
/-- the tuple at a, each item in a new pair with its number -/
def EtT (K : PySem.W.Frag) (a : Addr) : L2.It :=
  ⟨fun i H => ∃ (xs : List V) (x : V), SqT K H a xs ∧ xs[i]? = some x, fun i H v H' => ∃ t x, v = .ref t ∧ H t = none ∧ H' = upd H t (.tup [.int (i : Nat), x]) ∧ ∀ xs, SqT K H a xs → xs[i]? = some x, fun i H => ∃ xs : List V, SqT K H a xs ∧ xs.length ≤ i⟩
theorem turn_enumT {P : Program} {w : World} {K : PySem.W.Frag} {elts : List Expr} {kk : Nat} {tpos : Pos} (a e j : Addr) :
    Turn P w K (.Tuple elts kk tpos) (EtT K a) [e, j] e (fun i h => (∃ old, IsEnum h e j ((i : Nat) : Int) old) ∧ h.IsTupleIter j a i ∧ e ≠ j) where
  mem := List.mem_cons_self
  obj := by
    rintro i h ⟨⟨old, isE⟩, ⟨o, ho, hc, hd⟩, _⟩ b hb
    have hb2 : b = e ∨ b = j := by simpa using hb
    rcases hb2 with rfl | rfl
    · exact ⟨_, isE, fun v q => nomatch q⟩
    · exact ⟨o, ho, fun v q => by rw [hd] at q; cases q⟩
  keep := by
    rintro i h g ⟨⟨old, isE⟩, isT, ne⟩ hold
    exact ⟨⟨old, hold e (by simp) _ isE⟩, isT.at fun o q => hold j (by simp) o q, ne⟩
  item := by
    rintro X rfl rfl rfl hcalm i pins s σ H E hinv hfp ⟨⟨old, isE⟩, isT, ne⟩ ⟨xs, x, hq, hx⟩
    obtain ⟨its, rv, pt, hz⟩ := hinv.tuple hq
    have tu : s.heap.IsTuple a its.toArray := pt
    obtain ⟨u, hu, ru⟩ := rv.get hx
    have ha : a ≠ j := fun q => by
      obtain ⟨o, ho, hc, _⟩ := id isT
      obtain ⟨o2, ho2, hc2, _⟩ := id tu
      rw [q, ho] at ho2
      cases ho2
      rw [hc] at hc2
      exact absurd (Value.type.inj hc2) (by decide)
    have hea : e ≠ a := fun q => by
      obtain ⟨o2, ho2, hc2, _⟩ := id tu
      have isE2 : s.heap.get? e = some _ := isE
      have e3 := (congrArg s.heap.get? q).symm.trans isE2
      rw [ho2] at e3
      cases e3
      exact absurd (Value.type.inj hc2) (by decide)
    have hlt : i < its.toArray.size := by
      have := (List.getElem?_eq_some_iff.mp hu).1
      simpa using this
    have cold := hinv.ok.hd hcalm
    refine wpAny_pyNext_enum_itemD (draws_tup (A := X.A.in1) cold j a ha its.toArray) isE ⟨isT, tu⟩ hlt ne (by simp [ne, hea]) fun y g tk hy ho st1 hT hsz hold => ?_
    have hyu : y = u := by
      have h2 : its[i]? = some y := by simpa using hy
      rw [hu] at h2
      exact (Option.some.inj h2).symm
    subst hyu
    refine ⟨_, rfl, wpAny_letOwnedTupleGo_enum (s := { s with heap := g, toks := tk + 1 }) ho fun g2 isE2 sb => ?_⟩
    have hel : e < s.heap.objs.size := Heap.lt_size isE
    have hjl : j < s.heap.objs.size := by
      obtain ⟨_, q, _⟩ := id isT
      exact Heap.lt_size q
    have hT2 : g2.get? s.heap.objs.size = some { cls := .type "tuple", data := .seq #[.int i tk, y] } := (sb.2 _ (Nat.ne_of_gt hel)).trans hT
    have made : ObjOk X.prog X.w (upd H s.heap.objs.size (.tup [.int (i : Nat), x])) g2 s.heap.objs.size (.tup [.int (i : Nat), x]) :=
      ⟨by show 2 ≤ sizeLine; decide, [.int i tk, y], .cons ⟨_, rfl⟩ (.cons ru .nil), ⟨_, hT2, rfl, _, rfl⟩⟩
    have inv2 : Inv X pins σ (upd H s.heap.objs.size (.tup [.int (i : Nat), x])) { s with heap := g2, toks := tk + 1 } :=
      hinv.turnedNew (ch := [e, j]) (fun b ob hb q => (sb.2 b (fun z => hb (by simp [z]))).trans (hold b ob (fun z => hb (by simp [z])) (fun z => hb (by simp [z])) q)) hfp (Nat.le_refl _) made
    refine ⟨.ref s.heap.objs.size, _, inv2, rfl, ⟨_, x, rfl, hinv.hok.fresh (Nat.le_refl _), rfl, fun ys hy2 => by rw [hinv.tuple_inj hy2 hq]; exact hx⟩, ⟨⟨y, ?_⟩, st1.1.at fun o q => (sb.2 j (Ne.symm ne)).trans q, ne⟩, fun b hb => ?_⟩
    · have e1 : ((i + 1 : Nat) : Int) = (i : Int) + 1 := by omega
      rw [e1]
      exact isE2
    · have hb2 : b < s.heap.objs.size := by
        have z : b = e ∨ b = j := by simpa using hb
        rcases z with rfl | rfl
        · exact hel
        · exact hjl
      rw [upd_ne (Nat.ne_of_lt hb2)]
      exact (hfp b hb).1
  done := by
    rintro X rfl rfl rfl hcalm i pins s σ H E hinv hfp ⟨⟨old, isE⟩, isT, ne⟩ ⟨xs, hq, hx⟩
    obtain ⟨its, rv, pt, hz⟩ := hinv.tuple hq
    have tu : s.heap.IsTuple a its.toArray := pt
    have hT : s.TypeIs (.ref e) "enumerate" := ⟨_, isE, rfl⟩
    obtain ⟨f0, f1, f2, f3, f4, f5⟩ := hfp j (by simp)
    have hl := rv.length
    have cold := hinv.ok.hd hcalm
    unfold pyNext
    refine wpAny_bind (wpAny_attempt (wpAny_callSpecial?_slot (name := Str.ofString "__next__") hT F.slot_enumerate_next
      (wpAny_call_entry F.slot_enumerate_next hT F.entry_enumerate_next ?_ (F.args_enumerate_next_1 _))))
    show wpAny _ _ (field (.ref e) 2 >>= _) _ _ _
    refine wpAny_bind (wpAny_field isE rfl (x := .ref j) rfl (wpAny_bind (RZ.nextOf_tuple_end cold isT tu (by simp; omega) fun g x eb ⟨o, ho, hc⟩ => ?_)))
    refine wpAny_bind (wpAny_isInstance (T := "StopIteration") (b := true) ⟨o, ho, hc⟩ isSubtype_stop (wpAny_pure ⟨rfl, hinv.turned (t' := s.toks) (fun b o hb q => eb b o hb q) f0 f1 f3 f4 f5⟩))
  self := by
    rintro A i s Q E ⟨⟨_, isE⟩, _⟩ h
    exact wpAny_pyIter_enum isE h
def iEnumT (K : PySem.W.Frag) (ta : TA) : TI := fun σ H R => ta σ H fun vs H1 => ∃ a xs, vs = [.ref a] ∧ SqT K H1 a xs ∧ R (EtT K a) H1
theorem pi_enumT {X : Cx} {ex : Expr} {ta : TA} {p pos tpos : Pos} {elts : List Expr} {kk : Nat} (hg : Gl X "enumerate") (hm : X.mg "enumerate" = none) (ha : PA X [ex] ta) (hs : starEach [ex] X.env = [(false, eval ex X.env)] := by rfl) :
    PI X (.Tuple elts kk tpos) (.Call (.Name "enumerate" p) [ex] [] pos) (iEnumT X.K ta) := by
  refine ⟨fun pins s σ H R hinv h => ?_⟩
  refine Call_ (ld_blt hinv hg hm boot_enumerate (PyProof.Rows.callWith_type1 (thn (ha.run pos pins s σ H _ hinv h) fun us s1 ⟨vs, H1, inv1, hv, q1⟩ => ?_) hs rfl))
  obtain ⟨a, xs, rfl, hq, q⟩ := q1
  cases hv with
  | cons r rest =>
    cases rest
    cases r
    obtain ⟨its, rv, pt, hz⟩ := inv1.tuple hq
    refine enum_callT (show s1.heap.IsTuple a its.toArray from pt) fun g isE isT hold => wpAny_pyIter_enum isE ?_
    have inv2 : Inv X pins σ H1 { s1 with heap := g } := inv1.kept (t' := s1.toks) hold
    refine ⟨s1.heap.objs.size + 1, [s1.heap.objs.size + 1, s1.heap.objs.size], _, _, H1, rfl, inv2, turn_enumT a (s1.heap.objs.size + 1) s1.heap.objs.size, ⟨⟨.none, isE⟩, isT, Nat.succ_ne_self _⟩, fun b hb => ?_, q⟩
    have hle : s1.heap.objs.size ≤ b := by
      have z : b = s1.heap.objs.size + 1 ∨ b = s1.heap.objs.size := by simpa using hb
      rcases z with z | z
      · rw [z]; exact Nat.le_succ _
      · rw [z]; exact Nat.le_refl _
    exact inv1.fpOk hle (inv1.hok.fresh hle)
theorem lc_enumT {K : PySem.W.Frag} {a : Addr} {xs : List V} {g : TG} {tt : TT} {te : TE} {vs : List Nat} {σ : L2.St} {H1 : Hp} {D : Addr} {Qd : Hp → Prop} (Pv : Nat → Hp → Prop) (h0 : Pv 0 (upd H1 D (.lst []))) (hq : ∀ i H, Pv i H → SqT K H a xs)
    (hs : ∀ (i : Nat) (x : V) (t : Addr) (H : Hp), xs[i]? = some x → Pv i H → H t = none → g (.ref t) (wipe σ vs) (upd H t (.tup [.int (i : Nat), x])) fun σ2 H2 => wipe σ2 vs = wipe σ vs ∧ tt σ2 H2 fun c H3 =>
      if c = true then te σ2 H3 fun z H4 => ∃ acc, H4 D = some (.lst acc) ∧ acc.length < sizeLine ∧ Pv (i + 1) (upd H4 D (.lst (acc ++ [z]))) else Pv (i + 1) H3) (hd : ∀ H, Pv xs.length H → Qd H) :
    ∃ W : Nat → Nat → Hp → Prop, (∃ m, W 0 m (upd H1 D (.lst []))) ∧ ∀ i m H, W i m H →
      ((EtT K a).stop i H ∧ Qd H) ∨ ((EtT K a).go i H ∧ ∃ Nx : Hp → Prop, (∀ H', Nx H' → ∃ m', m' < m ∧ W (i + 1) m' H') ∧ ∀ x H', (EtT K a).yld i H x H' → g x (wipe σ vs) H' fun σ2 H2 => wipe σ2 vs = wipe σ vs ∧ tt σ2 H2 fun c H3 =>
        if c = true then te σ2 H3 fun z H4 => ∃ acc, H4 D = some (.lst acc) ∧ acc.length < sizeLine ∧ Nx (upd H4 D (.lst (acc ++ [z]))) else Nx H3) := by
  refine ⟨fun i m H => m + i = xs.length ∧ Pv i H, ⟨xs.length, rfl, h0⟩, ?_⟩
  rintro i m H ⟨hi, p⟩
  have q := hq i H p
  by_cases lt : i < xs.length
  · have ex : xs[i]? = some xs[i] := List.getElem?_eq_getElem lt
    refine .inr ⟨⟨xs, _, q, ex⟩, Pv (i + 1), fun H' p' => ⟨m - 1, by omega, by omega, p'⟩, fun v H' y => ?_⟩
    obtain ⟨t, x1, rfl, ht, rfl, f1⟩ := y
    exact hs i x1 t H (f1 xs q) p ht
  · have e : i = xs.length := by omega
    subst e
    exact .inl ⟨⟨xs, q, Nat.le_refl _⟩, hd H p⟩
end NL

namespace NL
open PySem PySem.Spec PyProof.Rows L2
/-- the mark at an index, from before or from behind -/
def mkAt (bs : List Bool) (i : Int) : Bool := (atI bs i).getD false
section
variable {prog : Program} {w : World} {A : Around} {env : Env} {s : Shared}
theorem low_ix {E : Value → Shared → Prop} {m : Addr} {ms : List Value} {bs : List Bool} {mm : Str → Option Value} {i : Int} {t : Tok} {p1 p2 p3 : Pos} {Q : Value → Shared → Prop}
    (hk : env.scope.kind = .function) (hm : env.kindOf "marks" = some .local) (ha : env.kindOf "after" = some .local)
    (hn : s.heap.Ns env.locals mm) (h2 : mm "marks" = some (.ref m)) (h3 : mm "after" = some (.int i t))
    (hl : s.heap.IsList m ms.toArray) (hb : Vals (bs.map V.bl) ms) (hz : ms.length ≤ sizeLine) (hin : (atI bs i).isSome = true)
    (h : Q (.bool (mkAt bs i)) s) :
    wpAny (model prog w) A (eval (.Subscript (.Name "marks" p1) (.Name "after" p2) p3) env) Q E s := by
  refine Subscript_ ?_
  refine wpAny_Name (wpAny_loadName_local hk hm hn h2 ?_)
  refine wpAny_Name (wpAny_loadName_local hk ha hn h3 ?_)
  obtain ⟨b, eb⟩ := Option.isSome_iff_exists.mp hin
  have hbm : mkAt bs i = b := by unfold mkAt; rw [eb]; rfl
  rw [hbm] at h
  obtain ⟨j, q1, q2, q3, q4, q5⟩ := atI_get eb
  have hl2 := hb.length
  rw [List.length_map] at hl2
  obtain ⟨u, eu, ru⟩ := hb.get (i := j) (x := V.bl b) (by rw [List.getElem?_map, q2]; rfl)
  have e : u = .bool b := ru
  subst e
  have hn63 := line63
  by_cases h0 : 0 ≤ i
  · have hj : i.toNat = j := by
      rw [seqIndex_of h0 q5] at q1
      exact Option.some.inj q1
    exact item_listR hl h0 (by omega) (by rw [hj]; simpa using eu) h
  · have hj : (i + (ms.toArray.size : Int)).toNat = j := by
      rw [seqIndex_neg (by omega) q4] at q1
      rw [List.size_toArray, ← hl2]
      exact Option.some.inj q1
    exact subscriptTail_builtinR (x := .bool b) hl.typeIs slot_list_getitem.lookup
      (wpAny_getItem_list_neg (Q := fun r s' => r = .bool b ∧ Q r s') hl (by omega) (by rw [List.size_toArray] <;> omega) (by omega) (by rw [hj]; simpa using eu) ⟨rfl, h⟩)

theorem low_bool {E : Value → Shared → Prop} {c : Bool} {k : Nat} {p : Pos} {Q : Value → Shared → Prop} (h : Q (.bool c) s) : wpAny (model prog w) A (eval (.Constant (.bool c) k p) env) Q E s := fun _ _ _ => h
/-- for after in option: if (not) marks[after]: return r1 .. return r2 -/
theorem low_body {o m : Addr} {its ms : List Value} {is : List Int} {bs : List Bool} {mm : Str → Option Value} {test : Expr} {fl r1 r2 : Bool} {k1 k2 : Nat} {p1 p2 q1 q2 q3 q4 q5 q6 q7 q8 q9 : Pos}
    (hh : A.handled = none) (hk : env.scope.kind = .function) (ho : env.kindOf "option" = some .local) (hm : env.kindOf "marks" = some .local) (ha : env.kindOf "after" = some .local)
    (hn : s.heap.Ns env.locals mm) (h1 : mm "option" = some (.ref o)) (h2 : mm "marks" = some (.ref m)) (ht : s.heap.IsTuple o its.toArray) (hl : s.heap.IsList m ms.toArray)
    (hi : Vals (is.map V.int) its) (hb : Vals (bs.map V.bl) ms) (hz : ms.length ≤ sizeLine) (hin : ∀ i ∈ is, (atI bs i).isSome = true)
    (htest : ∀ (s' : Shared) (E' : Value → Shared → Prop) (Q : Bool → Shared → Prop) (b : Bool), wpAny (model prog w) A (eval (.Subscript (.Name "marks" q1) (.Name "after" q2) q3) env) (fun v s₁ => v = .bool b ∧ s₁ = s') E' s' → Q (fl ^^ b) s' → wpAny (model prog w) A (isTrue test env (eval test env)) Q E' s') :
    wpAny (model prog w) A (execs [.For (.Name "after" p1) (.Name "option" p2) [.If test [.Return (some (.Constant (.bool r1) k1 q4)) q5] [] q6] [] q7, .Return (some (.Constant (.bool r2) k2 q8)) q9] env)
      (fun f s' => f = .ret (.bool (if is.any (fun i => fl ^^ mkAt bs i) then r1 else r2)) ∧ ∃ h' tk, s' = { s with heap := h', toks := tk } ∧ ∀ b o, b ≠ env.locals → s.heap.get? b = some o → h'.get? b = some o) (fun _ _ => False) s := by
  have hp : (env.scope.kind == .class || (env.scope.kind == .module && env.locals != env.globals)) = false := by rw [hk]; rfl
  have hL : env.locals < s.heap.objs.size := hn.lt
  have hto : o < s.heap.objs.size := by obtain ⟨_, e, _⟩ := ht; exact Heap.lt_size e
  have hno : env.locals ≠ o := fun e => by
    obtain ⟨ob, es, ep, e1, e2, _⟩ := hn
    obtain ⟨ob2, f1, f2, n, f3⟩ := ht
    rw [e, f1] at e1
    cases e1
    rw [f3] at e2
    cases e2
  have hnm : env.locals ≠ m := fun e => by
    obtain ⟨ob, es, ep, e1, e2, _⟩ := hn
    obtain ⟨ob2, f1, f2, n, f3⟩ := hl
    rw [e, f1] at e1
    cases e1
    rw [f3] at e2
    cases e2
  have hml : m < s.heap.objs.size := by obtain ⟨_, e, _⟩ := hl; exact Heap.lt_size e
  have hlen : its.length = is.length := by have := hi.length; rw [List.length_map] at this; exact this.symm
  refine wpAny_execs_cons (exec_For_goes ?_)
  refine wpAny_Name (wpAny_loadName_local hk ho hn h1 ?_)
  refine wpAny_pyIter_tuple ht ?_
  refine ⟨_, _, _, _, _, _, fun i s₁ => (is.take i).any (fun i => fl ^^ mkAt bs i) = false ∧ ∃ h₁ tk m₁, s₁ = { s with heap := h₁, toks := tk } ∧ h₁.Ns env.locals m₁ ∧ m₁ "marks" = some (.ref m) ∧ ∀ b ob, b ≠ env.locals → s.heap.get? b = some ob → h₁.get? b = some ob, rfl,
    Goes.tuple hh s.heap.objs.size o (Nat.ne_of_lt hto) its.toArray, ⟨⟨_, Heap.get?_push_size _ rfl, rfl, rfl⟩, ?_⟩, ⟨by rw [List.take_zero]; rfl, _, _, mm, rfl, hn.at' fun ob e => Heap.get?_push_of_some _ e, h2, fun b ob _ e => Heap.get?_push_of_some _ e⟩, ?_, ?_, ?_⟩
  · obtain ⟨ob, e, r⟩ := ht
    exact ⟨ob, Heap.get?_push_of_some _ e, r⟩
  · rintro i s₁ h' tk ⟨ha1, h₁, tk₁, m₁, rfl, n₁, t₁, k₁⟩ hk' _
    refine ⟨ha1, h', tk, m₁, rfl, n₁.at' fun ob e => hk' _ ob (by simp; exact Nat.ne_of_lt hL) e, t₁, fun b ob hb e => hk' b ob ?_ (k₁ b ob hb e)⟩
    have hlt := Heap.lt_size e
    simp
    exact Nat.ne_of_lt hlt
  · rintro i v s₁ hi' hv st ⟨ha1, h₁, tk₁, m₁, rfl, n₁, t₁, k₁⟩
    have hv' : its[i]? = some v := by simpa using hv
    obtain ⟨x, hx⟩ : ∃ x, is[i]? = some x := ⟨_, List.getElem?_eq_getElem (by rw [← hlen]; simpa using hi')⟩
    obtain ⟨u, eu, t, rfl⟩ := hi.get (i := i) (x := V.int x) (by rw [List.getElem?_map, hx]; rfl)
    rw [hv'] at eu
    cases eu
    refine wpAny_assign_Name (wpAny_storeName_local ha n₁ (fun h₂ n₂ s₂ => ?_) hp)
    have k₂ : ∀ b ob, b ≠ env.locals → s.heap.get? b = some ob → h₂.get? b = some ob := fun b ob hb e => s₂.extBut b ob hb (k₁ b ob hb e)
    have hl₂ : h₂.IsList m ms.toArray := by
      obtain ⟨ob, e, r⟩ := hl
      exact ⟨ob, k₂ m ob hnm.symm e, r⟩
    have hbx := hin x (List.mem_of_getElem? hx)
    refine wpAny_execs_cons (wpAny_If (htest _ _ _ (mkAt bs x) (low_ix hk hm ha n₂ ((if_neg (by decide)).trans t₁) (if_pos rfl) hl₂ hb hz hbx ⟨rfl, rfl⟩) ?_))
    have hnext : (is.take (i + 1)).any (fun i => fl ^^ mkAt bs i) = (fl ^^ mkAt bs x) := by
      rw [List.take_add_one, hx, List.any_append, ha1]
      simp
    cases hc : (fl ^^ mkAt bs x) with
    | true =>
      refine wpAny_execs_cons (wpAny_Return_some ?_)
      refine low_bool ?_
      have hany : is.any (fun i => fl ^^ mkAt bs i) = true := List.any_eq_true.mpr ⟨x, List.mem_of_getElem? hx, hc⟩
      refine ⟨by rw [hany]; rfl, h₂, _, rfl, k₂⟩
    | false =>
      refine wpAny_execs_nil (wpAny_execs_nil ⟨⟨by rw [hnext, hc], h₂, _, _, rfl, n₂, (if_neg (by decide)).trans t₁, k₂⟩, ?_⟩)
      exact ⟨st.1.at fun ob e => s₂.extBut _ _ (Nat.ne_of_gt hL) e, st.2.at fun ob e => s₂.extBut _ _ hno.symm e⟩
  · rintro s₁ ⟨ha1, h₁, tk₁, m₁, rfl, n₁, t₁, k₁⟩
    refine wpAny_execs_nil (wpAny_execs_cons (wpAny_Return_some ?_))
    refine low_bool ?_
    rw [show its.toArray.size = is.length by rw [List.size_toArray, hlen], List.take_length] at ha1
    refine ⟨by rw [ha1]; rfl, h₁, _, rfl, k₁⟩
end
end NL

namespace NL
open PySem PySem.Spec PyProof.Rows L2
/-- the test of such a def: not marks[after], or marks[after] -/
def MarkTest (fl : Bool) (q1 q2 q3 : Pos) (test : Expr) : Prop :=
  (fl = true ∧ ∃ q, test = .UnaryOp .Not (.Subscript (.Name "marks" q1) (.Name "after" q2) q3) q) ∨ (fl = false ∧ test = .Subscript (.Name "marks" q1) (.Name "after" q2) q3)
/-- a def of this form -/
structure MarkFn (K : PySem.W.Frag) (nm : Str) (st : Stmt) (f : Addr) (fd : FuncData) (fl r1 r2 : Bool) : Prop where
  F : L2.Fun K nm nm st f fd
  bd : Binds K fd ["option", "marks"] []
  body : ∃ (test : Expr) (k1 k2 : Nat) (p1 p2 q1 q2 q3 q4 q5 q6 q7 q8 q9 : Pos), MarkTest fl q1 q2 q3 test ∧ defBody st = [.For (.Name "after" p1) (.Name "option" p2) [.If test [.Return (some (.Constant (.bool r1) k1 q4)) q5] [] q6] [] q7, .Return (some (.Constant (.bool r2) k2 q8)) q9]
  kind : (defScope st).kind = .function
  co : (defScope st).isCoroutine = false
  gen : (defScope st).isGenerator = false
  cell : ∀ y ∈ (defScope st).names, y.2 ≠ .cell
  lo : (defScope st).names.lookup ("option" : Str) = some .local
  lm : (defScope st).names.lookup ("marks" : Str) = some .local
  la : (defScope st).names.lookup ("after" : Str) = some .local
section
variable {prog : Program} {w : World} {A : Around} {s : Shared}
theorem mark_test {env : Env} {fl : Bool} {q1 q2 q3 : Pos} {test : Expr} (h : MarkTest fl q1 q2 q3 test) (s' : Shared) (E' : Value → Shared → Prop) (Q : Bool → Shared → Prop) (b : Bool)
    (he : wpAny (model prog w) A (eval (.Subscript (.Name "marks" q1) (.Name "after" q2) q3) env) (fun v s₁ => v = .bool b ∧ s₁ = s') E' s') (hq : Q (fl ^^ b) s') : wpAny (model prog w) A (isTrue test env (eval test env)) Q E' s' := by
  have base : ∀ Q' : Bool → Shared → Prop, Q' b s' → wpAny (model prog w) A (isTrue (.Subscript (.Name "marks" q1) (.Name "after" q2) q3) env (eval (.Subscript (.Name "marks" q1) (.Name "after" q2) q3) env)) Q' E' s' := fun Q' h' =>
    isTrue_plain (wpAny_mono he (fun v s₁ r => by
      obtain ⟨rfl, rfl⟩ := r
      exact wpAny_truthy_bool h') fun _ _ x => x)
  rcases h with ⟨rfl, q, rfl⟩ | ⟨rfl, rfl⟩
  · exact isTrue_not (base _ (by rw [Bool.true_xor] at hq; exact hq))
  · exact base _ (by rw [Bool.false_xor] at hq; exact hq)
theorem low_call {E : Value → Shared → Prop} {K : PySem.W.Frag} {nm : Str} {st : Stmt} {f : Addr} {fd : FuncData} {fl r1 r2 : Bool} (M : MarkFn K nm st f fd fl r1 r2) (hK : K.In s.heap) (hlim : s.heap.NoLimit) (hh : A.handled = none) (hd : A.depth < recursionLimit)
    {o m : Addr} {its ms : List Value} {is : List Int} {bs : List Bool} (ht : s.heap.IsTuple o its.toArray) (hl : s.heap.IsList m ms.toArray)
    (hi : Vals (is.map V.int) its) (hb : Vals (bs.map V.bl) ms) (hz : ms.length ≤ sizeLine) (hin : ∀ i ∈ is, (atI bs i).isSome = true) :
    wpAny (model prog w) A (call (.ref f) [.ref o, .ref m]) (fun y s₃ => y = .bool (if is.any (fun i => fl ^^ mkAt bs i) then r1 else r2) ∧ Keeps s s₃) E s := by
  obtain ⟨⟨⟨oc, od, kV, doc, pm, an, cdv, ct, osl, rfl, lk, hcd⟩, kp⟩, bd, ⟨test, k1, k2, p1, p2, q1, q2, q3, q4, q5, q6, q7, q8, q9, hT, hbody⟩, kind, co, gen, cell, lo, lm, la⟩ := M
  refine wpAny_call (codeAny_call_function hd (hK _ _ lk) rfl co gen rfl (PySem.W.codeRec_of hK hcd) (bd s [.ref o, .ref m] hK rfl _ _ _ _ ?_))
  refine wpAny_newFunctionEnv cell (fun y hy => ?_) (fun h₁ hns hsb => ⟨?_, ?_⟩) kind
  · rcases List.mem_cons.mp hy with rfl | hy
    · exact lo
    · rcases List.mem_cons.mp hy with rfl | hy
      · exact lm
      · cases hy
  · exact hlim.fresh _ hsb
  have kk : ∀ b ob, s.heap.get? b = some ob → h₁.get? b = some ob := fun b ob e => hsb.extBut b ob (Nat.ne_of_lt (Heap.lt_size e)) (Heap.get?_push_of_some _ e)
  refine codeAny_func ?_
  have hb2 : (PySem.W.fnOf nm nm (defArgs st) (defBody st) (defScope st) .none kV doc pm an cdv ct).body = .stmts (defBody st) := rfl
  rw [hbody]
  refine wpAny_mono (low_body (o := o) (m := m) (is := is) (bs := bs) (mm := fun x => ((["option", "marks"] : List Str).zip [Value.ref o, Value.ref m]).reverse.lookup x) hh kind lo lm la hns rfl rfl
    (by obtain ⟨ob, e, r⟩ := ht; exact ⟨ob, kk _ _ e, r⟩) (by obtain ⟨ob, e, r⟩ := hl; exact ⟨ob, kk _ _ e, r⟩) hi hb hz hin (fun s' E' Q b => mark_test hT s' E' Q b)) (fun fl' s' r => ?_) fun _ _ x => x.elim
  obtain ⟨rfl, h', tk, rfl, k'⟩ := r
  exact ⟨rfl, h', tk, rfl, fun b ob e => k' b ob (Nat.ne_of_lt (Heap.lt_size e)) (kk b ob e)⟩
end
end NL

set_option maxHeartbeats 2000000
namespace NL
open PySem PySem.Spec PyProof.Rows L2
/-- the element of a generator expression over the item u gives b, and changes nothing that stood -/
def ElV (X : Cx) (P : Addr) (scope : Scope) (nm : Str) (elt : Expr) (σ : L2.St) (H1 : Hp) (x : V) (b : Bool) : Prop :=
  ∀ (pins : List (Addr × Obj)) (s1 : Shared) (u : Value), Inv X pins σ H1 s1 → RelV x u →
    ∀ (cenv : Env) (A' : Around) (E' : Value → Shared → Prop) (s₂ : Shared) (m₂ : Str → Option Value), cenv.scope = scope → cenv.cells = cloFrom X.env.cells scope.names [] → cenv.globals = X.env.globals →
      A'.handled = none → A'.depth ≤ X.A.depth + 1 → A'.units ≤ X.A.units + 8 → s₂.heap.Ns cenv.locals m₂ → m₂ nm = some u → (∀ c o, c ≠ P → s1.heap.get? c = some o → s₂.heap.get? c = some o) →
      wpAny (model X.prog X.w) A' (eval elt cenv) (fun y s₃ => y = .bool b ∧ Keeps s₂ s₃) E' s₂
def bAt (bs : List Bool) (j : Nat) : Bool := (bs[j]?).getD false
theorem any_bAt (bs : List Bool) : (List.range bs.length).any (bAt bs) = bs.any id := by
  rw [Bool.eq_iff_iff, List.any_eq_true, List.any_eq_true]
  constructor
  · rintro ⟨j, hj, h⟩
    have hj' := List.mem_range.mp hj
    refine ⟨bs[j], List.getElem_mem hj', ?_⟩
    unfold bAt at h
    rw [List.getElem?_eq_getElem hj'] at h
    exact h
  · rintro ⟨b, hb, h⟩
    obtain ⟨j, hj, rfl⟩ := List.getElem_of_mem hb
    refine ⟨j, List.mem_range.mpr hj, ?_⟩
    unfold bAt
    rw [List.getElem?_eq_getElem hj]
    exact h
theorem all_bAt (bs : List Bool) : (List.range bs.length).all (bAt bs) = bs.all id := by
  rw [Bool.eq_iff_iff, List.all_eq_true, List.all_eq_true]
  constructor
  · intro h b hb
    obtain ⟨j, hj, rfl⟩ := List.getElem_of_mem hb
    have q := h j (List.mem_range.mpr hj)
    unfold bAt at q
    rw [List.getElem?_eq_getElem hj] at q
    exact q
  · intro h j hj
    have hj' := List.mem_range.mp hj
    unfold bAt
    rw [List.getElem?_eq_getElem hj']
    exact h _ (List.getElem_mem hj')
section
variable {X : Cx} {pins : List (Addr × Obj)} {σ : L2.St} {H : Hp} {s : Shared}
/-- the generator at g gives the truths bs, one after the other -/
def Gives (X : Cx) (pins : List (Addr × Obj)) (σ : L2.St) (H1 : Hp) (P : Addr) (bs : List Bool) (g : Addr) (s5 : Shared) : Prop :=
  ∃ (fp wr : List Addr) (G : Array GenState → Array GenState → Prop) (F : Nat → Value → Prop) (St : Nat → Shared → Prop), WalksS X.prog X.w X.A.in1 g fp wr G bs.length F St ∧ St 0 s5 ∧ TruthOf X.prog X.w X.A.in1 F (bAt bs) ∧
    ∀ s', Moved wr G s5 s' → ∃ H2, GxR.Tabbed P H1 H2 ∧ Inv X pins σ H2 s'
theorem gen_tup {c P : Addr} {elt iter : Expr} {nm : Str} {px gpos : Pos} {scope : Scope} {te : TE} {k : Nat} {Q' : Value → Shared → Prop} {R : List Bool → Hp → Prop}
    (hr : Room k X.A) (TB : GxR.TabB X.base X.mg c P) (hcode : X.env.code = .ref c) (S : GxR.GenS X.env scope nm) (hi : PE X iter te)
    (hs : ∀ v, genFold iter X.env v = pure v) (I : Inv X pins σ H s)
    (h : te σ H fun v H1 => ∃ (a : Addr) (xs : List V) (bs : List Bool), v = .ref a ∧ SqT X.K H1 a xs ∧ bs.length = xs.length ∧ GxR.TabG H1 P ∧ (∀ (i : Nat) x b, xs[i]? = some x → bs[i]? = some b → ElV X P scope nm elt σ H1 x b) ∧ R bs H1)
    (hQ : ∀ bs H1 g s5, R bs H1 → Gives X pins σ H1 P bs g s5 → Q' (.ref g) s5) :
    wpAny (model X.prog X.w) X.A (eval (.GeneratorExp elt [⟨.Name nm px, iter, [], 0⟩] scope gpos) X.env) Q' X.xe s := by
  refine wpAny_GeneratorExp_walksQD hr.hd S.co (closure_ok S.free) S.cell S.dot S.loc S.kind hr.depth ?_ hs
  refine thn (hi.run pins s σ H _ I h) fun xv s1 ⟨v, H1, I1, r1, q1⟩ => ?_
  obtain ⟨a, xs, bs, rfl, hT, hbl, ⟨ps, hP, ht⟩, hE, hR⟩ := q1
  obtain rfl : xv = Value.ref a := r1
  obtain ⟨its, rv, pl, hz⟩ := I1.tuple hT
  have plT : s1.heap.IsTuple a its.toArray := pl
  have hPs : s1.heap.get? P = some { cls := .none, data := .fields ps } := I1.hok P _ hP
  have hPlt : P < s1.heap.objs.size := Heap.lt_size hPs
  have halt : a < s1.heap.objs.size := by
    obtain ⟨_, e, _⟩ := pl
    exact Heap.lt_size e
  have haP : a ≠ P := fun e => by
    obtain ⟨ob, e1, e2, _⟩ := pl
    rw [e, hPs] at e1
    cases e1
    cases e2
  have hil : its.length = bs.length := by rw [hbl]; exact rv.length.symm
  refine wpAny_pyIter_tuple plT ?_
  generalize ho : ({ cls := Value.type "tuple_iterator", data := Data.fields #[Value.ref a, Value.int 0 0] } : Obj) = ob
  have hP2 : (s1.heap.push ob).get? P = some { cls := .none, data := .fields ps } := Heap.get?_push_of_some _ hPs
  have cd : PySem.W.CodeHd (s1.heap.push ob) c P := TB.code.keeps fun b u e => Heap.get?_push_of_some _ (I1.bk b u e)
  have lim2 : (s1.heap.push ob).NoLimit := I1.nolimit.push ob
  have hst0 : (s1.heap.push ob).IsTupleIter s1.heap.objs.size a 0 ∧ (s1.heap.push ob).IsTuple a its.toArray := by
    refine ⟨⟨ob, Heap.get?_push_size _ (by rw [← ho] <;> rfl), ?_, ?_⟩, ?_⟩
    · rw [← ho]
    · rw [← ho] <;> rfl
    · obtain ⟨o2, e, r⟩ := pl
      exact ⟨o2, Heap.get?_push_of_some _ e, r⟩
  have cont : ∀ (code : Value) (h3 : Heap) (tk : Nat) (ps' : Array Value), Heap.ExtBut P (s1.heap.push ob) h3 → (s1.heap.push ob).objs.size ≤ h3.objs.size → h3.get? P = some { cls := .none, data := .fields ps' } → (∃ more, ps' = ps ++ more) → TriplesOk ps'.toList →
      wpAny (model X.prog X.w) X.A (builtinsFor X.env.globals X.env.builtins) (fun bi s₄ =>
        ∃ Ia fp wr n₀ Pf St₀ pz F, Value.ref s1.heap.objs.size = .ref Ia ∧ (∀ A' : Around, A'.handled = none → Walks X.prog X.w A' Ia fp wr n₀ Pf St₀) ∧ St₀ 0 s₄.heap ∧ (∀ b ∈ fp, b < s₄.heap.objs.size) ∧ s₄.heap.NoLimit ∧ cStatics ∉ wr ∧
          (∀ href : Heap, (∀ b o, s₄.heap.get? b = some o → href.get? b = some o) →
            QuietGenD X.prog X.w (genEnv scope (cloFrom X.env.cells scope.names []) s₄.heap.objs.size code bi X.env) nm [] elt (List.range s₄.heap.objs.size) wr Pf pz F href (X.A.depth + 1) (X.A.units + 8)) ∧
          (∀ a h₅ tk gs, gs.bare = true → s₄.heap.objs.size < a → h₅.objs.size = a + 1 → (∀ b o, s₄.heap.get? b = some o → h₅.get? b = some o) →
            WalksS X.prog X.w X.A.in4 a (a :: s₄.heap.objs.size :: List.range s₄.heap.objs.size) (s₄.heap.objs.size :: wr) (GenOnlyQ s₄.gens.size) (passing pz n₀ 0).length
              (fun j y => ∃ i, (passing pz n₀ 0)[j]? = some i ∧ F i y) (GenAt X.prog X.w X.A.in4 a s₄.gens.size s₄.heap.objs.size (List.range s₄.heap.objs.size) wr pz n₀ F) →
            GenAt X.prog X.w X.A.in4 a s₄.gens.size s₄.heap.objs.size (List.range s₄.heap.objs.size) wr pz n₀ F 0 { s₄ with gens := s₄.gens.push gs, toks := tk, heap := h₅ } →
            Q' (.ref a) { s₄ with gens := s₄.gens.push gs, toks := tk, heap := h₅ })) X.xe { s1 with heap := h3, toks := tk } := by
    intro code h3 tk ps' hx hsz hP3 hmore ht3
    obtain ⟨bm, obm, e1, e2, e3, e4, e5, e6, e7, e8⟩ := TB.bm
    have hcP : cStatics ≠ P := fun e => by
      obtain ⟨_, hns, _⟩ := I1.nolimit
      obtain ⟨o', es, ep, ho', hd, _⟩ := hns
      rw [e, hPs] at ho'
      cases ho'
      cases hd
    have hcl : cStatics < s1.heap.objs.size := let ⟨_, hns, _⟩ := I1.nolimit; hns.lt
    have sz2 : (s1.heap.push ob).objs.size = s1.heap.objs.size + 1 := Heap.size_push ..
    have keep3 : ∀ b u, b ≠ P → s1.heap.get? b = some u → h3.get? b = some u := fun b u hb e => hx b u hb (Heap.get?_push_of_some _ e)
    have h0lt : s1.heap.objs.size < h3.objs.size := Nat.lt_of_lt_of_le (Nat.lt_succ_self _) (by rw [sz2] at hsz; exact hsz)
    have hIP : s1.heap.objs.size ≠ P := Nat.ne_of_gt hPlt
    refine wpAny_builtinsFor (m := X.mg) (by rw [I1.ok.glob]; exact ((I1.mod.glob.keeps I1.bk).push ob).extBut hx TB.gP) e1 e2 (keep3 _ _ e4 (I1.bk _ _ e5)) e6 e7 e8 ?_
    refine ⟨s1.heap.objs.size, [s1.heap.objs.size, a], [s1.heap.objs.size], its.toArray.size, (fun i v => its.toArray[i]? = some v), (fun i h => h.IsTupleIter s1.heap.objs.size a i ∧ h.IsTuple a its.toArray), (fun _ => true), (fun i y => ∃ b, bs[i]? = some b ∧ y = .bool b), rfl,
      (fun A' hA => Walks.tuple hA s1.heap.objs.size a (Nat.ne_of_lt halt) its.toArray), ?_, ?_, lim2.extBut hx hcP, ?_, ?_, ?_⟩
    · refine ⟨?_, ?_⟩
      · obtain ⟨o2, f1, f2⟩ := hst0.1
        exact ⟨o2, hx _ _ hIP f1, f2⟩
      · obtain ⟨o2, f1, f2⟩ := hst0.2
        exact ⟨o2, hx _ _ haP f1, f2⟩
    · intro b hb
      show b < h3.objs.size
      rcases List.mem_cons.mp hb with z | z
      · rw [z]
        exact h0lt
      · rw [List.mem_singleton.mp z]
        exact Nat.lt_trans halt h0lt
    · intro z
      exact Nat.ne_of_lt hcl (List.mem_singleton.mp z)
    · intro href hhref
      refine ⟨fun A' E' i v s₂ m₂ hA hD hU hPv hn hm hk => ?_, fun A' E' i v s₂ m₂ hA hD hU hPv hp hn hm hk => ?_⟩
      · simp only [List.forIn_nil]
        exact wpAny_pure ⟨rfl, GxR.keeps_refl _⟩
      · have hv : its[i]? = some v := by simpa using hPv
        have hib : i < bs.length := by rw [← hil]; exact (List.getElem?_eq_some_iff.mp hv).1
        have hix : i < xs.length := by rw [← hbl]; exact hib
        obtain ⟨u, eu, ru⟩ := rv.get (List.getElem?_eq_getElem hix)
        rw [hv] at eu
        cases eu
        have hb2 := List.getElem?_eq_getElem hib
        refine wpAny_mono (hE i _ _ (List.getElem?_eq_getElem hix) hb2 pins s1 v I1 ru _ A' E' s₂ m₂ rfl rfl rfl hA hD hU hn hm fun b o hb e => ?_) (fun y s3 r => ⟨⟨_, hb2, r.1⟩, r.2⟩) fun _ _ e => e
        have e3 := keep3 b o hb e
        exact hk b (List.mem_range.mpr (Heap.lt_size e3)) (fun z => by
          have hlt := Heap.lt_size e
          rw [List.mem_singleton.mp z] at hlt
          exact Nat.lt_irrefl _ hlt) o (hhref b o e3)
    · intro g h5 tk5 gs hgb hag hsz5 hk5 W5 hat
      simp only [GxR.passing_true, List.length_range, List.size_toArray, hil] at W5
      have hat2 := hat
      simp only [List.size_toArray, hil] at hat2
      refine hQ bs H1 g _ hR ⟨_, _, _, _, _, W5.in4_1, hat2, ?_, fun s' hm => ?_⟩
      · intro j y sj Qj Ej hy hQj
        obtain ⟨i, hij, b, hb, rfl⟩ := hy
        obtain ⟨hj, ej⟩ := List.getElem?_eq_some_iff.mp hij
        rw [List.getElem_range] at ej
        subst ej
        have hQ2 : Qj (bAt bs j) sj := hQj
        unfold bAt at hQ2
        rw [hb] at hQ2
        exact wpAny_truthy_bool hQ2
      · obtain ⟨more, em⟩ := hmore
        have nwr : ∀ b u, s1.heap.get? b = some u → b ∉ h3.objs.size :: [s1.heap.objs.size] := fun b u e hb => by
          have hl := Heap.lt_size e
          rcases List.mem_cons.mp hb with z | z
          · rw [z] at hl
            have h9 : (h3.objs.size : Nat) < s1.heap.objs.size := hl
            omega
          · rw [List.mem_singleton.mp z] at hl
            exact Nat.lt_irrefl _ hl
        have J := GxR.inv_tab (more := more) (h' := s'.heap) (g' := s'.gens) (d' := s'.drawn) (t' := s'.toks) I1 hP (fun b u hb e => hm.heap b u (nwr b u e) (hk5 b u (keep3 b u hb e)))
          (by rw [← em]; exact hm.heap P _ (nwr P _ hPs) (hk5 P _ hP3)) (AllBare.movedS (I1.bare.push hgb) hm)
        rw [GxR.sh_eta s1 s' hm.os] at J
        exact ⟨upd H1 P (.tbl (ps ++ more)), ⟨⟨ps ++ more, upd_same, by rw [← em]; exact ht3⟩, fun b hb => upd_ne hb⟩, J⟩
  refine ⟨lim2, ?_⟩
  cases hf : codeAmong gpos ps.toList with
  | none =>
    refine wpAny_genexprCodeX hcode (cd.code hP2 ht) (cd.tab hP2) hf fun c' h' tk hx hge hlt hco' _ htab' _ => ?_
    obtain ⟨o1, vs, f1, tf, fl, tg, inF, tx, tt, op, _, _, _, _, _, _, _, _, _, htr, _⟩ := hco'
    exact cont _ h' tk _ hx (Nat.le_trans hge (Nat.le_of_lt hlt)) htab'.2 ⟨_, rfl⟩ htr
  | some cv =>
    refine wpAny_genexprCode_hit hcode (cd.code hP2 ht) hf ?_
    exact cont cv (s1.heap.push ob) s1.toks ps (Heap.ExtBut.refl _ _) (Nat.le_refl _) hP2 ⟨#[], by simp⟩ ht
/-- any(test for nm in e), all(test for nm in e), e a tuple -/
def tGenM (X : Cx) (P : Addr) (scope : Scope) (nm : Str) (elt : Expr) (f : List Bool → Bool) (te : TE) : TE := fun σ H Q => te σ H fun v H1 => ∃ (a : Addr) (xs : List V) (bs : List Bool), v = .ref a ∧ SqT X.K H1 a xs ∧ bs.length = xs.length ∧ GxR.TabG H1 P ∧
  (∀ (i : Nat) x b, xs[i]? = some x → bs[i]? = some b → ElV X P scope nm elt σ H1 x b) ∧ ∀ H2, GxR.Tabbed P H1 H2 → Q (.bl (f bs)) H2
theorem pe_anyM {c P : Addr} {elt iter : Expr} {nm : Str} {px p pos gpos : Pos} {scope : Scope} {te : TE} {k : Nat}
    (hr : Room k X.A) (hg : Gl X "any") (hm : X.mg "any" = none) (TB : GxR.TabB X.base X.mg c P) (hcode : X.env.code = .ref c) (S : GxR.GenS X.env scope nm) (hi : PE X iter te)
    (hs : ∀ v, genFold iter X.env v = pure v)
    (he : starEach [.GeneratorExp elt [⟨.Name nm px, iter, [], 0⟩] scope gpos] X.env = (false, eval (.GeneratorExp elt [⟨.Name nm px, iter, [], 0⟩] scope gpos) X.env) :: starEach [] X.env := by rfl) :
    PE X (.Call (.Name "any" p) [.GeneratorExp elt [⟨.Name nm px, iter, [], 0⟩] scope gpos] [] pos) (tGenM X P scope nm elt (·.any id) te) := by
  refine ⟨fun pins s σ H Q I h => ?_⟩
  refine wpAny_Call_Name_kw (ld_blt I hg hm boot_any ?_)
  refine PyProof.Rows.callWith_builtin1 ?_ he (by rfl)
  rw [he]
  show wpAny _ _ (spliced ((false, eval (.GeneratorExp elt [⟨.Name nm px, iter, [], 0⟩] scope gpos) X.env) :: backTo pos (starEach [] X.env))) _ _ s
  refine Calls.spliced_cons (gen_tup (R := fun bs H1 => ∀ H2, GxR.Tabbed P H1 H2 → Q (.bl (bs.any id)) H2) hr TB hcode S hi hs I h fun bs H1 g s5 hR hG => ?_)
  obtain ⟨fp, wr, G, F, St, W, hst, htr, hI⟩ := hG
  refine Calls.spliced_nil (call_any_walkS (W.self 0 _ _ _ hst ⟨g, fp, wr, G, _, F, St, _, rfl, W, hst, htr, fun s' hmv => ?_⟩))
  obtain ⟨H2, hT, J⟩ := hI s' hmv
  refine ⟨.bl _, H2, J, rfl, ?_⟩
  rw [any_bAt]
  exact hR H2 hT
theorem pe_allM {c P : Addr} {elt iter : Expr} {nm : Str} {px p pos gpos : Pos} {scope : Scope} {te : TE} {k : Nat}
    (hr : Room k X.A) (hg : Gl X "all") (hm : X.mg "all" = none) (hb : bootBuiltins "all" = some (.builtin "all")) (TB : GxR.TabB X.base X.mg c P) (hcode : X.env.code = .ref c) (S : GxR.GenS X.env scope nm) (hi : PE X iter te)
    (hs : ∀ v, genFold iter X.env v = pure v)
    (he : starEach [.GeneratorExp elt [⟨.Name nm px, iter, [], 0⟩] scope gpos] X.env = (false, eval (.GeneratorExp elt [⟨.Name nm px, iter, [], 0⟩] scope gpos) X.env) :: starEach [] X.env := by rfl) :
    PE X (.Call (.Name "all" p) [.GeneratorExp elt [⟨.Name nm px, iter, [], 0⟩] scope gpos] [] pos) (tGenM X P scope nm elt (·.all id) te) := by
  refine ⟨fun pins s σ H Q I h => ?_⟩
  refine wpAny_Call_Name_kw (ld_blt I hg hm hb ?_)
  refine PyProof.Rows.callWith_builtin1 ?_ he (by rfl)
  rw [he]
  show wpAny _ _ (spliced ((false, eval (.GeneratorExp elt [⟨.Name nm px, iter, [], 0⟩] scope gpos) X.env) :: backTo pos (starEach [] X.env))) _ _ s
  refine Calls.spliced_cons (gen_tup (R := fun bs H1 => ∀ H2, GxR.Tabbed P H1 H2 → Q (.bl (bs.all id)) H2) hr TB hcode S hi hs I h fun bs H1 g s5 hR hG => ?_)
  obtain ⟨fp, wr, G, F, St, W, hst, htr, hI⟩ := hG
  refine Calls.spliced_nil (call_all_walkS (W.self 0 _ _ _ hst ⟨g, fp, wr, G, _, F, St, _, rfl, W, hst, htr, fun s' hmv => ?_⟩))
  obtain ⟨H2, hT, J⟩ := hI s' hmv
  refine ⟨.bl _, H2, J, rfl, ?_⟩
  rw [all_bAt]
  exact hR H2 hT
end
end NL

set_option maxHeartbeats 2000000
namespace NL
open PySem PySem.Spec PyProof.Rows L2
theorem elv_mark {X : Cx} {P : Addr} {scope : Scope} {fnm : Str} {st : Stmt} {f : Addr} {fd : FuncData} {fl r1 r2 : Bool} {p p1 p2 pos : Pos} {σ : L2.St} {H1 : Hp} {k i : Nat} {m o : Addr} {is : List Int} {bs : List Bool}
    (M : MarkFn X.K fnm st f fd fl r1 r2) (hmg : X.mg fnm = some (.ref f)) (hr : Room k X.A) (hsk : scope.kind = .function) (hsl : scope.names.lookup ("option" : Str) = some .local) (hsf : scope.names.lookup ("marks" : Str) = some .free)
    (hsg : scope.names.lookup fnm = some .globalImplicit) (hclo : cloFrom X.env.cells scope.names [] = [(("marks" : Str), (X.env.cells.lookup ("marks" : Str)).getD 0)])
    (hN : X.N[i]? = some ("marks" : Str)) (hcell : X.env.kindOf ("marks" : Str) = some .cell) (hσ : σ[i]? = some (some (.ref m))) (hP : GxR.TabG H1 P)
    (hm : H1 m = some (.lst (bs.map V.bl))) (ho : H1 o = some (.tup (is.map V.int))) (hin : ∀ i ∈ is, (atI bs i).isSome = true)
    (hdb : (fnm == ("__debug__" : Str)) = false) :
    ElV X P scope "option" (.Call (.Name fnm p) [.Name "option" p1, .Name "marks" p2] [] pos) σ H1 (.ref o) (if is.any (fun i => fl ^^ mkAt bs i) then r1 else r2) := by
  intro pins s1 u I ru cenv A' E' s₂ m₂ hsc hce hgl hA hD hU hn2 hm2 hk
  obtain rfl : u = Value.ref o := ru
  obtain ⟨ps, hP, _⟩ := hP
  have hnP : ∀ b, H1 b = none → b ≠ P := fun b e z => by
    rw [z, hP] at e
    cases e
  have hb : ∀ b ob, X.base.get? b = some ob → s₂.heap.get? b = some ob := fun b ob e => hk b ob (hnP b (I.bs b ob e).2) (I.bk b ob e)
  have hKs : X.K.In s₂.heap := I.ok.mod.kin.keeps hb
  obtain ⟨its, rv, plo, _⟩ := I.tuple (a := o) (xs := is.map V.int) (.inl (.inl ho))
  obtain ⟨ms, rm, plm, hz⟩ := I.list (a := m) (xs := bs.map V.bl) (.inl (.inl hm))
  have hnT : ∀ {b : Addr} {q : HO}, H1 b = some q → (∀ qs, q ≠ .tbl qs) → b ≠ P := fun {b q} e n z => by
    rw [z, hP] at e
    exact n ps (Option.some.inj e).symm
  have ht2 : s₂.heap.IsTuple o its.toArray := by
    obtain ⟨ob, e, r⟩ := plo
    exact ⟨ob, hk o ob (hnT ho (fun qs z => nomatch z)) e, r⟩
  have hl2 : s₂.heap.IsList m ms.toArray := by
    obtain ⟨ob, e, r⟩ := plm.isList
    exact ⟨ob, hk m ob (hnT hm (fun qs z => nomatch z)) e, r⟩
  obtain ⟨mm, _, hloc⟩ := I.loc
  obtain ⟨v, rv2, hlook⟩ := hloc i _ _ hN hσ (.inr (.inl hcell))
  obtain rfl : v = Value.ref m := rv2
  obtain ⟨c, hc1, hc2⟩ : ∃ c, X.env.cells.lookup ("marks" : Str) = some c ∧ s1.heap.IsCell c (some (.ref m)) := by
    rcases hlook with ⟨h1, _⟩ | ⟨_, c, h1, h2⟩
    · rw [hcell] at h1
      cases h1
    · exact ⟨c, h1, h2⟩
  have hc3 : s₂.heap.IsCell c (some (.ref m)) := by
    obtain ⟨ob, e, r⟩ := hc2
    exact ⟨ob, hk c ob (hnP c (I.freeC _ _ hc1)) e, r⟩
  have hcl : cenv.cells.lookup ("marks" : Str) = some c := by
    rw [hce, hclo, hc1]
    rfl
  have hkind : cenv.scope.kind = .function := by rw [hsc]; exact hsk
  have kOf : ∀ x kd, scope.names.lookup x = some kd → cenv.kindOf x = some kd := fun x kd e => by
    show cenv.scope.names.lookup x = some kd
    rw [hsc]
    exact e
  refine wpAny_Call_Name_kw (Calls.Name_function_global hkind (kOf _ _ hsg) (Calls.loadGlobal_global (by rw [hgl, I.ok.glob]; exact I.mod.glob.keeps hb) hmg ?_) hdb)
  refine PySem.W.callWith_K (h₀ := X.base) I.ok.mod.kin M.F.kp ?_
  show wpAny _ _ (spliced ((false, eval (.Name "option" p1) cenv) :: (false, eval (.Name "marks" p2) cenv) :: [])) _ _ s₂
  refine Calls.spliced_cons (wpAny_Name (wpAny_loadName_local hkind (kOf _ _ hsl) hn2 hm2 ?_))
  refine Calls.spliced_cons (wpAny_Name (wpAny_loadName_free hkind (kOf _ _ hsf) hcl hc3 ?_))
  refine Calls.spliced_nil ⟨hKs, ?_⟩
  have dp := hr.dp
  exact low_call M hKs (I.ok.mod.nolimit.keeps hb) hA (by omega) ht2 hl2 rv rm (by rw [← rm.length]; exact hz) hin
end NL

set_option maxHeartbeats 2000000
namespace NL
open PySem PySem.Spec PyProof.Rows L2
/-! ### what is kept by a def whose table may grow -/
def NT : HO → Prop
  | .tbl _ => False
  | _ => True
structure Sm (P : Addr) (H H' : Hp) : Prop where
  fr : ∀ b o, NT o → H b = some o → H' b = some o
  tb : GxR.TabG H P → GxR.TabG H' P
  dom : ∀ b, H' b = none → H b = none
theorem Sm.refl {P : Addr} {H : Hp} : Sm P H H := ⟨fun _ _ _ e => e, fun h => h, fun _ e => e⟩
theorem Sm.trans {P : Addr} {H H1 H2 : Hp} (a : Sm P H H1) (b : Sm P H1 H2) : Sm P H H2 := ⟨fun c o n e => b.fr c o n (a.fr c o n e), fun h => b.tb (a.tb h), fun c e => a.dom c (b.dom c e)⟩
theorem Sm.of {P : Addr} {H H' : Hp} (s : Same H H') : Sm P H H' := ⟨fun b o _ e => s b o e, fun ⟨ps, e, t⟩ => ⟨ps, s _ _ e, t⟩, fun b e => s.free e⟩
theorem Sm.tbd {P : Addr} {H H' : Hp} (t : GxR.TabG H P) (h : GxR.Tabbed P H H') : Sm P H H' := by
  refine ⟨fun b o n e => ?_, fun _ => h.1, fun b e => ?_⟩
  · by_cases hb : b = P
    · obtain ⟨ps, e2, _⟩ := t
      rw [hb, e2] at e
      cases e
      cases n
    · rw [h.2 b hb]
      exact e
  · by_cases hb : b = P
    · obtain ⟨ps, e2, _⟩ := h.1
      rw [hb, e2] at e
      cases e
    · rw [← h.2 b hb]
      exact e
theorem Sm.tup {P : Addr} {H H' : Hp} {b : Addr} {xs : List V} (h : Sm P H H') (e : H b = some (.tup xs)) : H' b = some (.tup xs) := h.fr b _ trivial e
theorem Sm.lst {P : Addr} {H H' : Hp} {b : Addr} {xs : List V} (h : Sm P H H') (e : H b = some (.lst xs)) : H' b = some (.lst xs) := h.fr b _ trivial e
theorem Sm.dK {P : Addr} {H H' : Hp} {b : Addr} {xs : List (Key × V)} (h : Sm P H H') (e : H b = some (.dK xs)) : H' b = some (.dK xs) := h.fr b _ trivial e
theorem Sm.tp {P : Addr} {H H' : Hp} (h : Sm P H H') : Tp H H' := fun a xs e => h.tup e
theorem Sm.put {P : Addr} {H H' : Hp} {p : Addr} {o : HO} (s : Sm P H H') (hp : H p = none) (hP : p ≠ P) : Sm P H (upd H' p o) := by
  refine ⟨fun b u n e => ?_, fun t => ?_, fun b e => ?_⟩
  · rw [upd_ne (ne_of_none e hp)]
    exact s.fr b u n e
  · obtain ⟨ps, e, t⟩ := s.tb t
    exact ⟨ps, by rw [upd_ne (Ne.symm hP)]; exact e, t⟩
  · by_cases hb : b = p
    · rw [hb]
      exact hp
    · rw [upd_ne hb] at e
      exact s.dom b e
theorem Sm.seqT {P : Addr} {K : PySem.W.Frag} {H H' : Hp} {a : Addr} {xs : List V} (s : Sm P H H') (h : SqT K H a xs) : SqT K H' a xs := by
  rcases h with (h | ⟨o, h⟩) | h
  · exact .inl (.inl (s.fr _ _ trivial h))
  · exact .inl (.inr ⟨o, s.fr _ _ trivial h⟩)
  · exact .inr h
theorem Sm.seqL {P : Addr} {K : PySem.W.Frag} {H H' : Hp} {a : Addr} {xs : List V} (s : Sm P H H') (h : SqL K H a xs) : SqL K H' a xs := by
  rcases h with (h | ⟨o, h⟩) | h
  · exact .inl (.inl (s.fr _ _ trivial h))
  · exact .inl (.inr ⟨o, s.fr _ _ trivial h⟩)
  · exact .inr h
theorem TabG.ne {H : Hp} {P b : Addr} {o : HO} (t : GxR.TabG H P) (n : NT o) (e : H b = some o) : b ≠ P := fun z => by
  obtain ⟨ps, e2, _⟩ := t
  rw [z, e2] at e
  cases e
  cases n
theorem TabG.ne0 {H : Hp} {P b : Addr} (t : GxR.TabG H P) (e : H b = none) : b ≠ P := fun z => by
  obtain ⟨ps, e2, _⟩ := t
  rw [z, e2] at e
  cases e
theorem TabG.same {H H' : Hp} {P : Addr} (t : GxR.TabG H P) (s : Same H H') : GxR.TabG H' P := by
  obtain ⟨ps, e2, r⟩ := t
  exact ⟨ps, s _ _ e2, r⟩
theorem TabG.put {H : Hp} {P p : Addr} {o : HO} (t : GxR.TabG H P) (hp : p ≠ P) : GxR.TabG (upd H p o) P := by
  obtain ⟨ps, e2, r⟩ := t
  exact ⟨ps, by rw [upd_ne (Ne.symm hp)]; exact e2, r⟩
theorem Go.tab {d P : Addr} {H H' : Hp} (g : Go d H H') (h : Dr H d) (t : GxR.TabG H P) : GxR.TabG H' P := by
  obtain ⟨ps, e2, r⟩ := t
  refine ⟨ps, g.fr P _ (fun z => ?_) e2, r⟩
  obtain ⟨ns, e⟩ := h
  rw [← z, e2] at e
  cases e
/-! ### a def whose code has a table -/
theorem gens_of {env : Env} {scope : Scope} {x : Str} (a : scope.kind = .function) (b : scope.isCoroutine = false) (c : ∀ y ∈ scope.names, y.2 ≠ .cell) (d : scope.names.lookup (".0" : Str) = some NameKind.local) (e : scope.names.lookup x = some .local)
    (f : ∀ y ∈ scope.names, y.2 = .free → ∃ c, env.cells.lookup y.1 = some c) : GxR.GenS env scope x := ⟨a, b, c, d, e, f⟩
theorem cells_has {qual : Str} {sc scope : Scope} {L f : Addr} {cd : Value} (h : ∀ y ∈ scope.names, y.2 = .free → sc.names.lookup y.1 = some .cell) : ∀ y ∈ scope.names, y.2 = .free → ∃ c, (envOfC qual sc L f cd).cells.lookup y.1 = some c := fun y hy e =>
  Option.isSome_iff_exists.mp (PySem.W.cellsFrom_some _ _ _ (.inl (h y hy e)))
theorem okC {P : Program} {w : World} {K : PySem.W.Frag} {mg : Str → Option Value} {base : Heap} {x qual : Str} {st : Stmt} {f c : Addr} {fd : FuncData} {N ps : List Str} {k : Nat} {sp : Sp} (F : L2.Fun K x qual st f fd) (hc : fd.code = .ref c) (S : FnScope N ps (defScope st)) (len : ∀ vs H Q E, sp vs H Q E → vs.length = ps.length)
    (hbody : ∀ (A : Around) (outer : List Env) (s : Shared) (H : Hp) (vs : List V) (Q : VK) (E : XK), Room k (A.deeper (envOfC qual (defScope st) s.heap.objs.size f (.ref c))) → sp vs H Q E →
      ∃ t, PSs (cxOf CX0 P w K mg base N qual (defScope st) f (.ref c) A outer s H E).nox (defBody st) t ∧ t { nx := fun _ H' => Q .non H', rt := Q } (start N vs) H) : FnOk P w K mg base CX0 (k + 1) f fd ps sp := by
  obtain ⟨⟨oc, od, kV, doc, pm, an, cdv, ct, osl, rfl, lk, hcd⟩, kp⟩ := F
  obtain rfl : cdv = .ref c := hc
  refine fn_of lk hcd S len fun A outer s H vs Q E hr hsp => ?_
  obtain ⟨t, h, q⟩ := hbody A outer s H vs Q E hr hsp
  exact ⟨t, h.nox, q⟩
/-! ### forces -/
def frcF (side : Int) (os : Pos') (bs : List Bool) : Bool := if side = 0 then os.any (fun o => o.all (mkAt bs)) else os.all (fun o => o.any (mkAt bs))
section
variable {P : Program} {w : World} {K : PySem.W.Frag} {mg : Str → Option Value} {base : Heap}
def spForces (K : PySem.W.Frag) (Pt : Addr) : Sp := fun vs H Q _ => ∃ (side : Int) (v : V) (m : Addr) (os : Pos') (bs : List Bool), vs = [.int side, v, .ref m] ∧ PosIn H os v ∧ H m = some (.lst (bs.map V.bl)) ∧ GxR.TabG H Pt ∧ (∀ o ∈ os, ∀ i ∈ o, (atI bs i).isSome = true) ∧
  ∀ H', Sm Pt H H' → Q (.bl (frcF side os bs)) H'
theorem mark_all (T : Txt K mg) : MarkFn K "_all_marked" s_all_marked T.a_all_marked T.d_all_marked true false true :=
  ⟨T.F_all_marked, T.b_all_marked, ⟨_, _, _, _, _, _, _, _, _, _, _, _, _, _, .inl ⟨rfl, _, rfl⟩, rfl⟩, rfl, rfl, rfl, by decide +kernel, by decide +kernel, by decide +kernel, by decide +kernel⟩
theorem mark_some (T : Txt K mg) : MarkFn K "_some_marked" s_some_marked T.a_some_marked T.d_some_marked false true false :=
  ⟨T.F_some_marked, T.b_some_marked, ⟨_, _, _, _, _, _, _, _, _, _, _, _, _, _, .inr ⟨rfl, rfl⟩, rfl⟩, rfl, rfl, rfl, by decide +kernel, by decide +kernel, by decide +kernel, by decide +kernel⟩
theorem not_any {α : Type} (l : List α) (p : α → Bool) : (if l.any (fun i => true ^^ p i) = true then false else true) = l.all p := by
  cases h : l.any (fun i => true ^^ p i) with
  | true =>
    obtain ⟨x, hx, hp⟩ := List.any_eq_true.mp h
    rw [if_pos rfl]
    exact (List.all_eq_false.mpr ⟨x, hx, by simpa using hp⟩).symm
  | false =>
    rw [if_neg Bool.false_ne_true]
    refine (List.all_eq_true.mpr fun x hx => ?_).symm
    have := List.any_eq_false.mp h x hx
    simpa using this
theorem ok_forces (T : Txt K mg) {c Pt : Addr} (TB : GxR.TabB base mg c Pt) (hc : T.dforces.code = .ref c) : FnOk P w K mg base CX0 2 T.aforces T.dforces Pforces (spForces K Pt) := by
  refine okC T.Fforces hc scforces (fun vs H Q E h => ?_) (fun A outer s H vs Q E hr h => ?_)
  · obtain ⟨side, v, m, os, bs, rfl, _⟩ := h
    rfl
  obtain ⟨side, v, m, os, bs, rfl, ⟨b0, xs, rfl, e0, hxs⟩, hm, hT, hin, q⟩ := h
  have hC : Cx.env (cxOf CX0 P w K mg base Nforces "forces" (defScope sforces) T.aforces (.ref c) A outer s H E).nox = envOfC "forces" (defScope sforces) s.heap.objs.size T.aforces (.ref c) := rfl
  refine ⟨_, (pss_cons (ps_if (pt_cmpR op_eq (pv 0) (pe_glob rfl T.g_CONTROLLER T.r_CONTROLLER) (nomark _))
    (pss_one (ps_ret (pe_anyM hr (by rfl) T.z_any TB rfl (gens_of (by rfl) (by rfl) (by decide) (by rfl) (by rfl) (cells_has (by decide))) (pv 1) (fun _ => rfl))))
    pss_nil)
    (pss_one (ps_ret (pe_allM hr (by rfl) T.z_all (by decide +kernel) TB rfl (gens_of (by rfl) (by rfl) (by decide) (by rfl) (by rfl) (cells_has (by decide))) (pv 1) (fun _ => rfl))))), ?_⟩
  refine ⟨_, rfl, rfl, _, rfl, ?_⟩
  refine ite2 (fun z => ?_) (fun z => ?_)
  · have hs0 : side = 0 := int_eq z
    refine ⟨_, rfl, b0, xs, os.map (fun o => o.all (mkAt bs)), rfl, .inl (.inl e0), by rw [List.length_map]; exact hxs.1.symm, hT, fun i x b hx hb => ?_, fun H2 h2 => ?_⟩
    · rw [List.getElem?_map] at hb
      obtain ⟨o, ho, rfl⟩ := Option.map_eq_some_iff.mp hb
      obtain ⟨bo, rfl, eo⟩ := hxs.2 i o x ho hx
      rw [← not_any o (mkAt bs)]
      exact elv_mark (i := 2) (mark_all T) T.m_all_marked hr (by rfl) (by rfl) (by rfl) (by rfl) (by rfl) (by rfl) (by rfl) (by rfl) hT hm eo (hin o (List.mem_of_getElem? ho)) (by decide +kernel)
    · have e : frcF side os bs = (os.map (fun o => o.all (mkAt bs))).any id := by
        unfold frcF
        rw [if_pos hs0, List.any_map]
        rfl
      have q3 := q H2 (.tbd hT h2)
      rw [e] at q3
      exact q3
  · have hs0 : side ≠ 0 := int_ne z
    refine ⟨_, rfl, b0, xs, os.map (fun o => o.any (mkAt bs)), rfl, .inl (.inl e0), by rw [List.length_map]; exact hxs.1.symm, hT, fun i x b hx hb => ?_, fun H2 h2 => ?_⟩
    · rw [List.getElem?_map] at hb
      obtain ⟨o, ho, rfl⟩ := Option.map_eq_some_iff.mp hb
      obtain ⟨bo, rfl, eo⟩ := hxs.2 i o x ho hx
      have e : (if (o.any fun i => false ^^ mkAt bs i) = true then true else false) = o.any (mkAt bs) := by
        rw [show (fun i => false ^^ mkAt bs i) = mkAt bs from funext fun i => Bool.false_xor _]
        cases o.any (mkAt bs) <;> rfl
      rw [← e]
      exact elv_mark (i := 2) (mark_some T) T.m_some_marked hr (by rfl) (by rfl) (by rfl) (by rfl) (by rfl) (by rfl) (by rfl) (by rfl) hT hm eo (hin o (List.mem_of_getElem? ho)) (by decide +kernel)
    · have e : frcF side os bs = (os.map (fun o => o.any (mkAt bs))).all id := by
        unfold frcF
        rw [if_neg hs0, List.all_map]
        rfl
      have q3 := q H2 (.tbd hT h2)
      rw [e] at q3
      exact q3
end
end NL

set_option maxHeartbeats 2000000
namespace NL
open PySem PySem.Spec PyProof.Rows L2
/-- the end of a law whose program holds a generator expression in the def nm -/
theorem walk_tab {l : PySem.W.OpenLaw} {n k : Nat} {q : Program} {loose : List Str} {XP : (Str → Option Value) → Heap → Prop} {YP : World → Heap → Prop} {d : DefRec} {K : Params → PySem.W.Frag} {CX : World → CXT} {x : Str} (nm : Str)
    (hn : l.most = some n) (hn2 : n ≤ sizeLine) (hdf : d.params.defaults = []) (hr : Room k callerA) (hrec : ((recsOf q).any fun e => e.name == nm) = true) (hY : ∀ (w : World) (h : Heap), YP w h → (K w.params).In h)
    (F : ∀ (w : World) (mg : Str → Option Value) (fa : Addr) (h : Heap), YP w h → (K w.params).In h → h.Ns mainGlobals mg → mg d.name = some (.ref fa) → (∀ f, mg nm = some (.ref f) → LamX.OwnTab (K w.params) f h) → LamX.LawAtS l w (K w.params) (CX w) k n x mg fa h)
    (hCX : ∀ (w : World) (H : Hp) (s : Shared) (e : Value) (s' : Shared), CX w [] H s (fun _ _ _ => False) e s' → False) :
    PySem.W.WalkO q loose XP YP l.row.toRowW d [] (fun f vs => PySem.call f vs) := by
  refine Att.attach_callB hn hdf fun w s0 s1 mg mb fa ob pm cd doc a vs ns Gt Y hob hd hcd hmg hobj hints hlen hbits hg => ?_
  have KX := hY w _ Y
  have own : ∀ f, mg nm = some (.ref f) → LamX.OwnTab (K w.params) f s1.heap := fun f hf c P o1 fd1 e dd vs1 sl k1 k2 k3 k4 k5 => by
    obtain ⟨dL, hm, hn1⟩ := List.any_eq_true.mp hrec
    have hn3 : dL.name = nm := beq_iff_eq.mp hn1
    obtain ⟨a', o', fd', c', P', h1, h2, h3, h4, h5, h6⟩ := Gt.T.tab dL hm
    rw [hn3, hf] at h1
    cases h1
    rw [KX _ _ k1] at h2
    cases h2
    rw [k2] at h3
    cases h3
    rw [k3] at h4
    cases h4
    obtain ⟨⟨oc, vc, e1, _, e3, e4⟩, hP⟩ := h6
    rw [KX _ _ k4] at e1
    cases e1
    cases e3
    rw [k5] at e4
    cases e4
    exact hP
  obtain ⟨fd, cs, sp, hT, nT, C, hb, hsp, hF⟩ := F w mg fa _ Y KX Gt.T.g hmg own
  exact LamX.law_callTs KX Gt.T.g Gt.T.b Gt.T.builtins Gt.T.nolimit hg hT nT C Gt.T.bmain hobj hints (Nat.le_trans hlen hn2) hr hF hb (fun H hH hS => hsp H a ns hlen hbits hH hS) fun H e s' => hCX w H s1 e s'
/-- the law's promise where a table stands at Pt -/
def spLawT (K : PySem.W.Frag) (Pt : Addr) : Sp := fun vs H Q _ => ∃ (a : Addr) (ns : List Int), vs = [.ref a] ∧ SqL K H a (ns.map V.int) ∧ ns.length ≤ 63 ∧ GxR.TabG H Pt ∧ ∀ H', Q (.bl true) H'
end NL

namespace NL
open PySem PySem.Spec PyProof.Rows L2
/-! ### marks as a function of positions from -1 on -/
abbrev Mk' := Int → Bool
def bsO (n : Nat) (M : Mk') : List Bool := (List.range n).map (fun i : Nat => M (i : Int)) ++ [M (-1)]
theorem bsO_len (n : Nat) (M : Mk') : (bsO n M).length = n + 1 := by
  unfold bsO
  rw [List.length_append, List.length_map, List.length_range]
  rfl
theorem bsO_nat {n : Nat} {M : Mk'} {k : Nat} (h : k < n) : (bsO n M)[k]? = some (M (k : Int)) := by
  unfold bsO
  rw [List.getElem?_append_left (by rw [List.length_map, List.length_range]; exact h), List.getElem?_map, List.getElem?_range h]
  rfl
theorem bsO_last {n : Nat} {M : Mk'} : (bsO n M)[n]? = some (M (-1)) := by
  unfold bsO
  rw [List.getElem?_append_right (by rw [List.length_map, List.length_range]; exact Nat.le_refl n), List.length_map, List.length_range, Nat.sub_self]
  rfl
theorem bsO_at {n : Nat} {M : Mk'} {p : Int} (h0 : -1 ≤ p) (h1 : p < n) : atI (bsO n M) p = some (M p) := by
  by_cases hp : 0 ≤ p
  · have := atI_nat (bsO_nat (M := M) (show p.toNat < n by omega))
    rw [show ((p.toNat : Nat) : Int) = p by omega] at this
    exact this
  · have : p = -1 := by omega
    subst this
    unfold atI ixN
    rw [if_neg (by decide), if_pos (by rw [bsO_len]; omega), bsO_len, show ((-1 : Int) + ((n + 1 : Nat) : Int)).toNat = n by omega]
    exact bsO_last
theorem atI_mapO {α β : Type} (g : α → β) (xs : List α) (i : Int) : atI (xs.map g) i = (atI xs i).map g := by
  unfold atI
  rw [List.length_map]
  cases ixN xs.length i with
  | none => rfl
  | some j => exact List.getElem?_map
theorem bsO_V {n : Nat} {M : Mk'} {p : Int} (h0 : -1 ≤ p) (h1 : p < n) : atI ((bsO n M).map V.bl) p = some (.bl (M p)) := by
  rw [atI_mapO, bsO_at h0 h1]
  rfl
theorem bsO_mk {n : Nat} {M : Mk'} {p : Int} (h0 : -1 ≤ p) (h1 : p < n) : mkAt (bsO n M) p = M p := by
  unfold mkAt
  rw [bsO_at h0 h1]
  rfl
theorem bsO_ext {n : Nat} {M N : Mk'} (h : ∀ p : Int, -1 ≤ p → p < n → M p = N p) : bsO n M = bsO n N := by
  unfold bsO
  rw [h (-1) (Int.le_refl _) (by omega)]
  congr 1
  exact List.map_congr_left fun k hk => h _ (by omega) (by have := List.mem_range.mp hk; omega)
theorem bsO_set {n : Nat} {M : Mk'} {p : Int} (h0 : 0 ≤ p) (h1 : p < n) : (bsO n M).set p.toNat true = bsO n (fun x => M x || decide (x = p)) := by
  refine List.ext_getElem? fun k => ?_
  rw [List.getElem?_set]
  by_cases hk : p.toNat = k
  · rw [if_pos hk, if_pos (by rw [bsO_len]; omega)]
    rw [bsO_nat (show k < n by omega)]
    have : ((k : Nat) : Int) = p := by omega
    rw [this, decide_eq_true rfl, Bool.or_true]
  · rw [if_neg hk]
    rcases Nat.lt_trichotomy k n with h | h | h
    · rw [bsO_nat h, bsO_nat h, decide_eq_false (by omega), Bool.or_false]
    · subst h
      rw [bsO_last, bsO_last, decide_eq_false (by omega), Bool.or_false]
    · rw [List.getElem?_eq_none (by rw [bsO_len]; omega), List.getElem?_eq_none (by rw [bsO_len]; omega)]
/-! ### round by round -/
def frcM (side : Int) (os : Pos') (M : Mk') : Bool := if side = 0 then os.any (fun o => o.all M) else os.all (fun o => o.any M)
theorem any_congr' {α : Type} {l : List α} {f g : α → Bool} (h : ∀ x ∈ l, f x = g x) : l.any f = l.any g := by
  induction l with
  | nil => rfl
  | cons a r ih =>
    rw [List.any_cons, List.any_cons, h a (List.mem_cons_self ..), ih fun x hx => h x (List.mem_cons_of_mem _ hx)]
theorem all_congr' {α : Type} {l : List α} {f g : α → Bool} (h : ∀ x ∈ l, f x = g x) : l.all f = l.all g := by
  induction l with
  | nil => rfl
  | cons a r ih =>
    rw [List.all_cons, List.all_cons, h a (List.mem_cons_self ..), ih fun x hx => h x (List.mem_cons_of_mem _ hx)]
theorem frcM_ext {side : Int} {os : Pos'} {M N : Mk'} (h : ∀ o ∈ os, ∀ p ∈ o, M p = N p) : frcM side os M = frcM side os N := by
  unfold frcM
  split
  · exact any_congr' fun o ho => all_congr' fun p hp => h o ho p hp
  · exact all_congr' fun o ho => any_congr' fun p hp => h o ho p hp
theorem frcF_bsO {side : Int} {os : Pos'} {n : Nat} {M : Mk'} (h : ∀ o ∈ os, ∀ p ∈ o, -1 ≤ p ∧ p < (n : Int)) : frcF side os (bsO n M) = frcM side os M := by
  unfold frcF frcM
  split
  · exact any_congr' fun o ho => all_congr' fun p hp => bsO_mk (h o ho p hp).1 (h o ho p hp).2
  · exact all_congr' fun o ho => any_congr' fun p hp => bsO_mk (h o ho p hp).1 (h o ho p hp).2
def psO (A : Ar) (p : Int) : Pos' := if 0 ≤ p then (A[p.toNat]?).getD [] else []
theorem psO_at {A : Ar} {p : Int} {os : Pos'} (h0 : 0 ≤ p) (h : A[p.toNat]? = some os) : psO A p = os := by
  unfold psO
  rw [if_pos h0, h]
  rfl
/-- all successors are positions or -1 -/
def InA (A : Ar) (n : Nat) : Prop := ∀ os ∈ A, ∀ o ∈ os, ∀ p ∈ o, -1 ≤ p ∧ p < (n : Int)
theorem psO_in {A : Ar} {n : Nat} (h : InA A n) (p : Int) : ∀ o ∈ psO A p, ∀ x ∈ o, -1 ≤ x ∧ x < (n : Int) := by
  unfold psO
  split
  · cases hq : A[p.toNat]? with
    | none => intro o ho; cases ho
    | some os => exact h os (List.mem_of_getElem? hq)
  · intro o ho; cases ho
def nxM (A : Ar) (side : Int) (am : List Int) (M : Mk') : Mk' := fun p => M p || (decide (p ∈ am) && frcM side (psO A p) M)
def mr (A : Ar) (side : Int) (am : List Int) (M : Mk') : Nat → Mk'
  | 0 => M
  | k + 1 => nxM A side am (mr A side am M k)
section
variable {A : Ar} {side : Int} {am : List Int} {M : Mk'}
theorem mr_up {p : Int} {k : Nat} (h : mr A side am M k p = true) : mr A side am M (k + 1) p = true := by
  show (mr A side am M k p || _) = true
  rw [h, Bool.true_or]
theorem mr_le {p : Int} {j k : Nat} (h : j ≤ k) (e : mr A side am M j p = true) : mr A side am M k p = true := by
  induction h with
  | refl => exact e
  | step _ ih => exact mr_up ih
theorem mr_out {p : Int} (h : p ∉ am) : ∀ k, mr A side am M k p = M p
  | 0 => rfl
  | k + 1 => by
    show (mr A side am M k p || (decide (p ∈ am) && _)) = M p
    rw [decide_eq_false h, Bool.false_and, Bool.or_false, mr_out h k]
theorem mr_stop {n : Nat} (hA : InA A n) {K : Nat} (h : ∀ p, -1 ≤ p → p < (n : Int) → mr A side am M (K + 1) p = mr A side am M K p) : ∀ L, K ≤ L → ∀ p, -1 ≤ p → p < (n : Int) → mr A side am M L p = mr A side am M K p := by
  intro L hL
  induction hL with
  | refl => intro p _ _; rfl
  | step _ ih =>
    rename_i L _
    intro p h0 h1
    show (mr A side am M L p || (decide (p ∈ am) && frcM side (psO A p) (mr A side am M L))) = _
    rw [ih p h0 h1, frcM_ext (N := mr A side am M K) fun o ho x hx => ih x (psO_in hA p o ho x hx).1 (psO_in hA p o ho x hx).2]
    exact h p h0 h1
/-- the round in which a position is marked first -/
def IsRk (f : Nat → Mk') (p : Int) : Option Nat → Prop
  | some r => f r p = true ∧ ∀ j, j < r → f j p = false
  | none => ∀ j, f j p = false
theorem IsRk.uniq {f : Nat → Mk'} {p : Int} : ∀ {a b : Option Nat}, IsRk f p a → IsRk f p b → a = b
  | none, none, _, _ => rfl
  | some r, none, h, g => by
    have := g r
    rw [h.1] at this
    cases this
  | none, some r, g, h => by
    have := g r
    rw [h.1] at this
    cases this
  | some r, some q, h, g => by
    rcases Nat.lt_trichotomy r q with z | z | z
    · have := g.2 r z
      rw [h.1] at this
      cases this
    · rw [z]
    · have := h.2 q z
      rw [g.1] at this
      cases this
/-- how many of the first n positions are marked -/
def cnt (n : Nat) (f : Mk') : Nat := ((List.range n).filter (fun i : Nat => f (i : Int))).length
theorem cnt_le (n : Nat) (f : Mk') : cnt n f ≤ n := by
  have := List.length_filter_le (fun i : Nat => f (i : Int)) (List.range n)
  rw [List.length_range] at this
  exact this
theorem cnt_s (n : Nat) (f : Mk') : cnt (n + 1) f = cnt n f + (if f (n : Int) = true then 1 else 0) := by
  unfold cnt
  rw [List.range_succ, List.filter_append, List.length_append]
  congr 1
  rw [List.filter_cons]
  cases h : f (n : Int) with
  | true => rfl
  | false => rfl
theorem cnt_mono {f g : Mk'} (h : ∀ p, f p = true → g p = true) : ∀ n, cnt n f ≤ cnt n g
  | 0 => Nat.le_refl _
  | n + 1 => by
    have ih := cnt_mono h n
    rw [cnt_s, cnt_s]
    cases hf : f (n : Int) with
    | true => rw [h _ hf]; simp; exact ih
    | false =>
      rw [if_neg Bool.false_ne_true]
      omega
theorem cnt_lt {f g : Mk'} (h : ∀ p, f p = true → g p = true) : ∀ {n k : Nat}, k < n → f (k : Int) = false → g (k : Int) = true → cnt n f < cnt n g
  | 0, k, hk, _, _ => absurd hk (Nat.not_lt_zero k)
  | n + 1, k, hk, hf, hg => by
    rw [cnt_s, cnt_s]
    by_cases hkn : k = n
    · subst hkn
      have := cnt_mono h k
      rw [hf, hg, if_pos rfl, if_neg Bool.false_ne_true]
      omega
    · have ih := cnt_lt h (show k < n by omega) hf hg
      cases hf2 : f (n : Int) with
      | true => rw [h _ hf2]; simp; exact ih
      | false =>
        rw [if_neg Bool.false_ne_true]
        omega
theorem cnt_full {f : Mk'} : ∀ {n : Nat}, cnt n f = n → ∀ k, k < n → f (k : Int) = true
  | 0, _, k, hk => absurd hk (Nat.not_lt_zero k)
  | n + 1, h, k, hk => by
    have h1 := cnt_le n f
    rw [cnt_s] at h
    cases hf : f (n : Int) with
    | true =>
      rw [hf, if_pos rfl] at h
      by_cases hkn : k = n
      · rw [hkn]; exact hf
      · exact cnt_full (show cnt n f = n by omega) k (by omega)
    | false =>
      rw [hf, if_neg Bool.false_ne_true] at h
      omega
/-- where each of the first rounds marks one more, all n positions are marked in round n -/
theorem cnt_rounds {n : Nat} {f : Nat → Mk'} (up : ∀ k p, f k p = true → f (k + 1) p = true) : ∀ K, (∀ k, k < K → ∃ i : Nat, i < n ∧ f k (i : Int) = false ∧ f (k + 1) (i : Int) = true) → K ≤ cnt n (f K)
  | 0, _ => Nat.zero_le _
  | K + 1, h => by
    have ih := cnt_rounds up K fun k hk => h k (by omega)
    obtain ⟨i, hi, h1, h2⟩ := h K (Nat.lt_succ_self K)
    have := cnt_lt (fun p hp => up K p hp) hi h1 h2
    omega
end
end NL

set_option maxHeartbeats 4000000
namespace NL
open PySem PySem.Spec PyProof.Rows L2
/-- an item of a list or a tuple -/
def rIxQ (K : PySem.W.Frag) : R2 := fun x y H Q => ∃ p xs i v, x = .ref p ∧ y = .int i ∧ (SqL K H p xs ∨ SqT K H p xs) ∧ atI xs i = some v ∧ Q v H
theorem ix_seqK {X : Cx} {K : PySem.W.Frag} (h : X.K = K) : IxR X (rIxQ K) := by
  subst h
  intro value slice pins s σ H x y v u Q I rx ry q hs
  obtain ⟨p, xs, i, z, e1, e2, hq | hq, he, q⟩ := q
  · exact ix_list value slice pins s σ H x y v u Q I rx ry ⟨p, xs, i, z, e1, e2, hq, he, q⟩ hs
  · exact ix_tup value slice pins s σ H x y v u Q I rx ry ⟨p, xs, i, z, e1, e2, hq, he, q⟩ hs
/-- an arena, a tuple or a list of positions -/
def ArQ (H : Hp) (A : Ar) (v : V) : Prop := ∃ b xs, v = .ref b ∧ (H b = some (.lst xs) ∨ H b = some (.tup xs)) ∧ Each (PosIn H) A xs
theorem ArQ.of {H : Hp} {A : Ar} {v : V} (h : ArIn H A v) : ArQ H A v := by
  obtain ⟨b, xs, e, q, r⟩ := h
  exact ⟨b, xs, e, .inr q, r⟩
theorem ArQ.sm {P : Addr} {H H' : Hp} {A : Ar} {v : V} (s : Sm P H H') (h : ArQ H A v) : ArQ H' A v := by
  obtain ⟨b, xs, e, q, r⟩ := h
  refine ⟨b, xs, e, ?_, r.mono fun a x => PosIn.tp s.tp⟩
  rcases q with q | q
  · exact .inl (s.lst q)
  · exact .inr (s.tup q)
theorem seqQ {K : PySem.W.Frag} {H : Hp} {b : Addr} {xs : List V} (h : H b = some (.lst xs) ∨ H b = some (.tup xs)) : SqL K H b xs ∨ SqT K H b xs := by
  rcases h with h | h
  · exact .inl (sqd h)
  · exact .inr (sqt h)
/-- what the dict of steps says after k rounds -/
def DkR (f : Nat → Mk') (k : Nat) (kvs : List (Key × V)) : Prop := ∀ p : Int, ((f k p = false ∨ f 0 p = true) → valV kvs (Sum.inl p : Key) = none) ∧ (f k p = true → f 0 p = false → ∃ r, r ≤ k ∧ valV kvs (Sum.inl p : Key) = some (.int (r : Nat)) ∧ f r p = true ∧ ∀ j, j < r → f j p = false)
/-- .. of a position in the end -/
theorem DkR.rk {A : Ar} {side : Int} {am : List Int} {M : Mk'} {n K : Nat} {kvs : List (Key × V)} (h : DkR (mr A side am M) K kvs) (hst : ∀ L, K ≤ L → ∀ p, -1 ≤ p → p < (n : Int) → mr A side am M L p = mr A side am M K p) {p : Int} (h0 : -1 ≤ p) (h1 : p < n) :
    ∃ ro : Option Nat, IsRk (mr A side am M) p ro ∧ (M p = true → ro = some 0) ∧ (M p = false → valV kvs (Sum.inl p : Key) = ro.map fun r : Nat => V.int (r : Int)) := by
  by_cases hM : M p = true
  · exact ⟨some 0, ⟨hM, fun j hj => absurd hj (Nat.not_lt_zero j)⟩, fun _ => rfl, fun e => by rw [hM] at e; cases e⟩
  · have hM' : M p = false := by simpa using hM
    by_cases hK : mr A side am M K p = true
    · obtain ⟨r, hr, hv, h2, h3⟩ := (h p).2 hK hM'
      exact ⟨some r, ⟨h2, h3⟩, fun e => absurd e hM, fun _ => hv⟩
    · have hK' : mr A side am M K p = false := by simpa using hK
      refine ⟨none, fun j => ?_, fun e => absurd e hM, fun _ => (h p).1 (.inl hK')⟩
      rcases Nat.le_total K j with z | z
      · rw [hst j z p h0 h1]
        exact hK'
      · cases hj : mr A side am M j p with
        | false => rfl
        | true => exact absurd (mr_le z hj) hK
/-- the keys are positions -/
def KyR (n : Nat) (kvs : List (Key × V)) : Prop := ∀ e ∈ kvs, ∃ k : Nat, k < n ∧ e.1 = (Sum.inl (k : Int) : Key)
theorem KyR.nil {n : Nat} : KyR n [] := fun e he => (by cases he)
theorem KyR.put {n : Nat} {kvs : List (Key × V)} (h : KyR n kvs) {p : Int} (p0 : 0 ≤ p) (p1 : p < (n : Int)) (v : V) : KyR n (putK kvs (Sum.inl p : Key) v) := by
  intro e he
  unfold putK at he
  split at he
  · obtain ⟨q, hq, rfl⟩ := List.mem_map.mp he
    by_cases e : q.1 = (Sum.inl p : Key)
    · rw [if_pos e]
      exact ⟨p.toNat, by omega, by show q.1 = _; rw [e, show ((p.toNat : Nat) : Int) = p by omega]⟩
    · rw [if_neg e]
      exact h q hq
  · rcases List.mem_append.mp he with hq | hq
    · exact h e hq
    · rw [List.mem_singleton.mp hq]
      exact ⟨p.toNat, by omega, by show (Sum.inl p : Key) = _; rw [show ((p.toNat : Nat) : Int) = p by omega]⟩
theorem putK_len' {κ : Type} [DecidableEq κ] (c : List (κ × V)) (k : κ) (x : V) : (putK c k x).length ≤ c.length + 1 := by
  unfold putK
  split
  · rw [List.length_map]
    exact Nat.le_succ _
  · rw [List.length_append]
    exact Nat.le_refl _
theorem dp_intsG {K : PySem.W.Frag} {H : Hp} : ∀ l : List Int, DpAll K H (l.map V.int) (l.map PyData.int)
  | [] => .nil
  | a :: r => .cons (.int a) (dp_intsG r)
theorem lay_intsG : ∀ l : List Int, PyData.canLayAll0 (l.map PyData.int) = true ∧ PyData.depthAll (l.map PyData.int) = 0
  | [] => ⟨rfl, rfl⟩
  | a :: r => by
    obtain ⟨h1, h2⟩ := lay_intsG r
    refine ⟨?_, ?_⟩
    · show (true && PyData.canLayAll0 (r.map PyData.int)) = true
      rw [h1]
      rfl
    · show max 0 (PyData.depthAll (r.map PyData.int)) = 0
      rw [h2]
      rfl
theorem shaped_lstG (l : List Int) : SeqAt.shaped (.list (l.map PyData.int)) = true := by
  obtain ⟨h1, h2⟩ := lay_intsG l
  show (PyData.canLayAll0 (l.map PyData.int) && decide (PyData.depthAll (l.map PyData.int) + 1 ≤ 64)) = true
  rw [h1, h2]
  rfl
theorem foldK_take {α : Type} {l : List α} {j : Nat} {x : α} (h : l[j]? = some x) (y : α) : y ∈ l.take (j + 1) ↔ y ∈ l.take j ∨ y = x := by
  rw [List.take_add_one, h, List.mem_append]
  simp
section
variable {P : Program} {w : World} {K : PySem.W.Frag} {mg : Str → Option Value} {base : Heap}
def spSteps (K : PySem.W.Frag) (Pt : Addr) : Sp := fun vs H Q _ => ∃ (v : V) (A : Ar) (side : Int) (ml al : Addr) (M : Mk') (am : List Int), vs = [v, .int side, .ref ml, .ref al] ∧ ArQ H A v ∧ A.length ≤ 500 ∧ InA A A.length ∧ H ml = some (.lst ((bsO A.length M).map V.bl)) ∧
  H al = some (.lst (am.map V.int)) ∧ am.length ≤ 500 ∧ (∀ p ∈ am, 0 ≤ p ∧ p < (A.length : Int)) ∧ GxR.TabG H Pt ∧
  ∀ D kvs k H', Sm Pt H H' → H D = none → H' D = some (.dK kvs) → DkR (mr A side am M) k kvs → KyR A.length kvs → kvs.length ≤ 251000 → (∀ L, k ≤ L → ∀ p, -1 ≤ p → p < (A.length : Int) → mr A side am M L p = mr A side am M k p) → Q (.ref D) H'
theorem ok_steps_to (T : Txt K mg) {c Pt : Addr} (TB : GxR.TabB base mg c Pt) (hc : T.dforces.code = .ref c) : FnOk P w K mg base CX0 3 T.asteps_to T.dsteps_to Psteps_to (spSteps K Pt) := by
  have Gforces := ok_forces (P := P) (w := w) T TB hc
  refine T.Fsteps_to.ok scsteps_to (fun vs H Q E h => ?_) (fun cdv A outer s H vs Q E hr h => ?_)
  · obtain ⟨v, A, side, ml, al, M, am, rfl, _⟩ := h
    rfl
  obtain ⟨v, A0, side, ml, al, M, am, rfl, hA, hn, hin, hm, ha, hal, hap, hT, q⟩ := h
  generalize hnn : A0.length = n at *
  refine ⟨_, (pss_cons (ps_set (i := 4) scsteps_to.nd rfl (Or.inr rfl) (pe_callTy call_list_of (by rfl) T.z_list (by decide +kernel) (pa_cons (pv 2) pa_nil)))
    (pss_cons (ps_set (i := 5) scsteps_to.nd rfl (Or.inl rfl) pe_dnewK)
    (pss_cons (ps_set (i := 6) scsteps_to.nd rfl (Or.inl rfl) pe_int)
    (pss_cons (ps_set (i := 7) scsteps_to.nd rfl (Or.inl rfl) pe_bl)
    (pss_cons (ps_while PassesOwn.never (pt_val (pv 7))
    (pss_cons (ps_aug (i := 6) scsteps_to.nd rfl (Or.inl rfl) pe_int ip_add)
    (pss_cons (ps_setLc (i := 8) (own := [("at", 9)]) (g := (gName 9)) (tt := _) rfl scsteps_to.nd rfl rfl (sw_true rfl rfl rfl (by decide +kernel)) (pi_list (pv 3)) (blkOk_by (N := Nsteps_to) (sc := defScope ssteps_to) (by decide +kernel)) (fun _ _ _ _ _ => (pg_name (i := 9) scsteps_to.nd rfl (Or.inl rfl))) (fun _ _ _ _ _ => (pts_one (PW.pt (pw_and (pt_not (pt_val (pe_ix (ix_listK (K := K) rfl) (pv 4) (pv 9) (fun _ _ => rfl)))) (pw_and1 (pt_val (pe_call Gforces (hr.mono (by omega)) (by rfl) T.mforces T.Fforces.kp T.bforces .nil pass0 (pa_cons (pv 1) (pa_cons (pe_ix (ix_seqK (K := K) rfl) (pv 0) (pv 9) (fun _ _ => rfl)) (pa_cons (pv 4) pa_nil)))))))))) (fun _ _ _ _ _ => (pv 9)))
    (pss_cons (ps_for  PassesOwn.never rfl (pi_list (pv 8)) (pg_name (i := 9) scsteps_to.nd rfl (Or.inl rfl))
    (pss_cons (ps_dput (hu_of hr) (pv 5) (pv 9) (pv 6) rfl)
    (pss_one (ps_asg pe_bl (pg_sub (pv 4) (pv 9) set_list)))))
    (pss_one (ps_set (i := 7) scsteps_to.nd rfl (Or.inl rfl) (pe_cmpR (op_neD hr.units) (pv 8) (pe_lst pa_nil) (nomark _))))))))
    (pss_one (ps_ret (pv 5)))))))), ?_⟩
  refine ⟨_, rfl, ml, _, rfl, .inl (sqd hm), fun rl hrl => ?_⟩
  obtain ⟨H1, e1, s1, k1⟩ := newH hrl (.lst ((bsO n M).map V.bl))
  rw [e1]
  refine fun D hD => ?_
  obtain ⟨H2, e2, s2, k2⟩ := newH hD (.dK [])
  rw [e2]
  have hnrl : rl ≠ D := fun z => by
    rw [z, hD] at k1
    cases k1
  have hDH : H D = none := s1.free hD
  have hrH : H rl = none := hrl
  have g0 := s1.trans s2
  have rD0 : DkR (mr A0 side am M) 0 [] := fun p => ⟨fun _ => rfl, fun h1 h2 => by
    rw [h1] at h2
    cases h2⟩
  have up : ∀ k p, mr A0 side am M k p = true → mr A0 side am M (k + 1) p = true := fun k p e => mr_up e
  -- round by round
  refine ⟨fun m σ H' => ∃ (k : Nat) (g : Bool) (kvs : List (Key × V)) (y8 y9 : Option V), σ = [some v, some (.int side), some (.ref ml), some (.ref al), some (.ref rl), some (.ref D), some (.int (k : Nat)), some (.bl g), y8, y9] ∧ Sm Pt H H' ∧ H' rl = some (.lst ((bsO n (mr A0 side am M k)).map V.bl)) ∧ H' D = some (.dK kvs) ∧ DkR (mr A0 side am M) k kvs ∧ (KyR n kvs ∧ k ≤ 502) ∧ kvs.length ≤ k * 500 ∧
    (g = true → k ≤ cnt n (mr A0 side am M k)) ∧ (g = false → ∃ j, k = j + 1 ∧ ∀ p, -1 ≤ p → p < (n : Int) → mr A0 side am M (j + 1) p = mr A0 side am M j p) ∧ m = if g = true then n - cnt n (mr A0 side am M k) + 1 else 0, ⟨_, 0, true, [], _, _, rfl, .of g0, s2 _ _ k1, k2, rD0, ⟨.nil, Nat.zero_le _⟩, Nat.zero_le _, fun _ => Nat.zero_le _, fun e => (by cases e), rfl⟩, ?_⟩
  rintro m σ H3 ⟨k, g, kvs, y8, y9, rfl, s3, kr3, kD3, hdk, ⟨hky, hk5⟩, hkl, hg1, hg2, hmm⟩
  refine ⟨_, rfl, g, rfl, ?_⟩
  cases g with
  | false =>
    refine ifF rfl ?_
    obtain ⟨j, rfl, hst⟩ := hg2 rfl
    have hst2 := mr_stop hin hst
    refine ⟨_, rfl, q D kvs (j + 1) H3 s3 hDH kD3 hdk hky (by omega) fun L hL p h0 h1 => ?_⟩
    rw [hst2 L (by omega) p h0 h1, hst p h0 h1]
  | true =>
  refine ifT rfl ?_
  have hkc := hg1 rfl
  have hcn := cnt_le n (mr A0 side am M k)
  generalize hf : mr A0 side am M k = f at *
  have hfs : mr A0 side am M (k + 1) = nxM A0 side am f := by rw [← hf]; rfl
  refine ⟨fun σ H' => ∃ (fnd : List Int) (kvs : List (Key × V)) (y8 y9 : Option V), σ = [some v, some (.int side), some (.ref ml), some (.ref al), some (.ref rl), some (.ref D), some (.int ((k + 1 : Nat) : Int)), some (.bl (!fnd.isEmpty)), y8, y9] ∧ Sm Pt H H' ∧ fnd = am.filter (fun p => !f p && frcM side (psO A0 p) f) ∧ H' rl = some (.lst ((bsO n (nxM A0 side am f)).map V.bl)) ∧ H' D = some (.dK kvs) ∧ DkR (mr A0 side am M) (k + 1) kvs ∧ KyR n kvs ∧ kvs.length ≤ (k + 1) * 500, ?_, ?_⟩
  · rintro σ' H' ⟨fnd, kvs', z8, z9, rfl, t3, hfnd, f1, f2, hdk', hky', hkl'⟩
    rw [← hfs] at f1
    have hin1 : ∀ p, p ∈ fnd → p ∈ am ∧ f p = false ∧ frcM side (psO A0 p) f = true := fun p hp => by
      rw [hfnd, List.mem_filter] at hp
      simpa using hp
    have gain : fnd.isEmpty = false → cnt n f < cnt n (mr A0 side am M (k + 1)) := fun e => by
      obtain ⟨p, hp⟩ : ∃ p, p ∈ fnd := by
        cases hc2 : fnd with
        | nil => rw [hc2] at e; cases e
        | cons a r => exact ⟨a, List.mem_cons_self ..⟩
      obtain ⟨q1, q2, q3⟩ := hin1 p hp
      obtain ⟨p0, p1⟩ := hap p q1
      refine cnt_lt (k := p.toNat) (fun x hx => by rw [hfs]; show (f x || _) = true; rw [hx, Bool.true_or]) (by omega) ?_ ?_
      · rw [show ((p.toNat : Nat) : Int) = p by omega]
        exact q2
      · rw [show ((p.toNat : Nat) : Int) = p by omega, hfs]
        show (f p || (decide (p ∈ am) && frcM side (psO A0 p) f)) = true
        rw [decide_eq_true q1, q3, Bool.true_and, Bool.or_true]
    have hc1 := cnt_le n (mr A0 side am M (k + 1))
    refine ⟨_, ?_, k + 1, !fnd.isEmpty, kvs', z8, z9, rfl, t3, f1, f2, hdk', ⟨hky', by omega⟩, hkl', fun e => ?_, fun e => ?_, rfl⟩
    · rw [hmm, if_pos rfl]
      cases he : fnd.isEmpty with
      | true =>
        rw [Bool.not_true, if_neg Bool.false_ne_true]
        omega
      | false =>
        have := gain he
        rw [Bool.not_false, if_pos rfl]
        omega
    · have := gain (by simpa using e)
      omega
    · refine ⟨k, rfl, fun p h0 h1 => ?_⟩
      have hnil : fnd = [] := by
        have : fnd.isEmpty = true := by simpa using e
        simpa using this
      rw [hfs, hf]
      show (f p || (decide (p ∈ am) && frcM side (psO A0 p) f)) = f p
      cases hfp : f p with
      | true => rfl
      | false =>
        rw [Bool.false_or]
        cases hd : (decide (p ∈ am) && frcM side (psO A0 p) f) with
        | false => rfl
        | true =>
          rw [Bool.and_eq_true] at hd
          have : p ∈ fnd := by
            rw [hfnd, List.mem_filter]
            refine ⟨of_decide_eq_true hd.1, ?_⟩
            simp [hfp, hd.2]
          rw [hnil] at this
          cases this
  refine ⟨_, rfl, _, _, rfl, rfl, ?_⟩
  refine ⟨_, rfl, al, rfl, ⟨_, sqd (s3.lst ha)⟩, fun fl hfl => ?_⟩
  have hT3 := s3.tb hT
  have hflP : fl ≠ Pt := TabG.ne0 hT3 hfl
  have hflr : fl ≠ rl := fun z => by
    rw [z, kr3] at hfl
    cases hfl
  have hflD : fl ≠ D := fun z => by
    rw [z, kD3] at hfl
    cases hfl
  have hA3 := hA.sm s3
  generalize ht : (fun p => !f p && frcM side (psO A0 p) f) = t
  refine lc_list (K := K) (a := al) (xs := am.map V.int) (fun (j : Nat) (H' : Hp) => Sm Pt H3 H' ∧ H' fl = some (.lst (((am.take j).filter t).map V.int))) ?_ ?_ ?_ ?_
  · exact ⟨.of (same_new hfl _), upd_same⟩
  · rintro j H' _ ⟨s4, _⟩
    exact sqd (s4.lst (s3.lst ha))
  · rintro j x H4 hx ⟨s4, k4⟩
    rw [List.getElem?_map] at hx
    obtain ⟨p, hp, rfl⟩ := Option.map_eq_some_iff.mp hx
    obtain ⟨p0, p1⟩ := hap p (List.mem_of_getElem? hp)
    have hnext : (am.take (j + 1)).filter t = (am.take j).filter t ++ (if t p = true then [p] else []) := by
      rw [List.take_add_one, hp, List.filter_append]
      congr 1
      rw [Option.toList_some, List.filter_cons]
      cases t p <;> rfl
    have hlen : ((am.take j).filter t).length ≤ 500 := by
      have h1 := List.length_filter_le t (am.take j)
      rw [List.length_take] at h1
      omega
    refine ⟨rfl, ?_⟩
    refine ⟨_, rfl, _, rfl, rl, _, _, _, rfl, rfl, sqd (s4.lst kr3), bsO_V (by omega) p1, _, rfl, ?_⟩
    cases hfp : f p with
    | true =>
      refine ifF rfl (iteF ?_)
      refine ⟨s4, ?_⟩
      rw [hnext, show t p = false by rw [← ht]; simp [hfp], if_neg Bool.false_ne_true, List.append_nil]
      exact k4
    | false =>
      refine ifT rfl ?_
      obtain ⟨b0, xs, rfl, hb0, hxs⟩ := hA3.sm s4
      obtain ⟨os, x, ho, hat, hpos⟩ := hxs.atI p0 (by rw [hnn]; exact p1)
      have hps := psO_at p0 ho
      have hios := hin os (List.mem_of_getElem? ho)
      refine ⟨_, rfl, _, rfl, _, rfl, b0, xs, p, x, rfl, rfl, seqQ hb0, hat, _, rfl, side, x, rl, os, bsO n f, rfl, hpos, s4.lst kr3, s4.tb hT3, fun o ho2 i hi => ?_, fun H5 s5 => ⟨_, rfl, ?_⟩⟩
      · rw [bsO_at (hios o ho2 i hi).1 (hios o ho2 i hi).2]
        rfl
      · rw [frcF_bsO hios]
        have htp : t p = frcM side os f := by rw [← ht]; simp [hfp, hps]
        cases hfr : frcM side os f with
        | false =>
          refine iteF ⟨s4.trans s5, ?_⟩
          rw [hnext, htp, hfr, if_neg Bool.false_ne_true, List.append_nil]
          exact s5.lst k4
        | true =>
          refine iteT ⟨_, rfl, _, s5.lst k4, big' (by rw [List.length_map]; omega), (s4.trans s5).put hfl hflP, ?_⟩
          rw [upd_same, hnext, htp, hfr, if_pos rfl, List.map_append]
          rfl
  · rintro H4 ⟨s4, k4⟩
    rw [List.length_map, List.take_length] at k4
    have hfl500 : (am.filter t).length ≤ 500 := Nat.le_trans (List.length_filter_le _ _) hal
    have hmem : ∀ p, p ∈ am.filter t → 0 ≤ p ∧ p < (n : Int) := fun p h => hap p (List.mem_filter.mp h).1
    generalize hfnd : am.filter t = fnd at *
    refine ⟨_, rfl, fl, rfl, ⟨_, sqd k4⟩, ?_⟩
    refine for_list (K := K) (a := fl) (xs := fnd.map V.int) (fun (j : Nat) (σ : L2.St) (H' : Hp) => ∃ (kvs' : List (Key × V)) (y9 : Option V), σ = [some v, some (.int side), some (.ref ml), some (.ref al), some (.ref rl), some (.ref D), some (.int (((k : Nat) : Int) + 1)), some (.bl true), some (.ref fl), y9] ∧ Sm Pt H H' ∧ H' fl = some (.lst (fnd.map V.int)) ∧
      H' rl = some (.lst ((bsO n (fun x => f x || decide (x ∈ fnd.take j))).map V.bl)) ∧ H' D = some (.dK kvs') ∧ (∀ p : Int, valV kvs' (Sum.inl p : Key) = if p ∈ fnd.take j then some (.int (((k : Nat) : Int) + 1)) else valV kvs (Sum.inl p : Key)) ∧ KyR n kvs' ∧ kvs'.length ≤ k * 500 + j) ?_ ?_ ?_ ?_
    · refine ⟨kvs, _, rfl, s3.trans s4, k4, ?_, s4.dK kD3, fun p => ?_, hky, hkl⟩
      · rw [s4.lst kr3]
        simp
      · rw [List.take_zero, if_neg (by simp)]
    · rintro j σ H' _ ⟨kvs', y9, rfl, _, k5, _⟩
      exact sqd k5
    · rintro j x σ H5 hx ⟨kvs', y9, rfl, s5, k5, kr5, kD5, hv5, hy5, hl5⟩
      rw [List.getElem?_map] at hx
      obtain ⟨p, hp, rfl⟩ := Option.map_eq_some_iff.mp hx
      obtain ⟨p0, p1⟩ := hmem p (List.mem_of_getElem? hp)
      have hj := (List.getElem?_eq_some_iff.mp hp).1
      refine ⟨_, rfl, _, rfl, _, rfl, D, _, rfl, DPut.k (k := Sum.inl p) kD5 (big' (by have := cnt_le n f; omega)), ?_⟩
      have hDP : D ≠ Pt := TabG.ne0 hT hDH
      have hrP : rl ≠ Pt := TabG.ne0 hT hrH
      refine ⟨_, rfl, _, rfl, rl, _, _, _, rfl, rfl, by rw [upd_ne hnrl]; exact kr5, ixN_in p0 (by rw [List.length_map, bsO_len]; omega), ?_⟩
      refine ⟨putK kvs' (Sum.inl p : Key) (.int (((k : Nat) : Int) + 1)), _, rfl, (s5.put hDH hDP).put hrH hrP, ?_, ?_, ?_, fun y => ?_, hy5.put p0 p1 _, ?_⟩
      · rw [upd_ne hflr, upd_ne hflD]
        exact k5
      · rw [upd_same, ← List.map_set, bsO_set p0 p1]
        congr 3
        refine bsO_ext fun x _ _ => ?_
        rw [Bool.or_assoc]
        congr 1
        rw [← Bool.decide_or]
        exact decide_eq_decide.mpr (foldK_take hp x).symm
      · rw [upd_ne (Ne.symm hnrl), upd_same]
      · rw [valV_put, hv5]
        by_cases hy : y = p
        · rw [if_pos (by rw [hy]), if_pos ((foldK_take hp y).mpr (.inr hy))]
        · rw [if_neg (fun e => hy (Sum.inl.inj e))]
          by_cases hy2 : y ∈ fnd.take j
          · rw [if_pos hy2, if_pos ((foldK_take hp y).mpr (.inl hy2))]
          · rw [if_neg hy2, if_neg (fun e => ((foldK_take hp y).mp e).elim hy2 hy)]
      · have := putK_len' kvs' (Sum.inl p : Key) (V.int (((k : Nat) : Int) + 1))
        omega
    · rintro σ H5 ⟨kvs', y9, rfl, s5, k5, kr5, kD5, hv5, hy5, hl5⟩
      rw [List.length_map, List.take_length] at kr5
      rw [List.length_map] at hv5 hl5
      simp only [List.take_length] at hv5
      have hnx : bsO n (fun x => f x || decide (x ∈ fnd)) = bsO n (nxM A0 side am f) := bsO_ext fun x _ _ => by
        show _ = (f x || (decide (x ∈ am) && frcM side (psO A0 x) f))
        rw [← hfnd, ← ht]
        cases hfx : f x with
        | true => rfl
        | false =>
          rw [Bool.false_or, Bool.false_or, ← Bool.decide_coe (frcM side (psO A0 x) f), ← Bool.decide_and]
          refine decide_eq_decide.mpr ?_
          rw [List.mem_filter, hfx]
          simp
      rw [hnx] at kr5
      refine ⟨_, rfl, Nat.zero_le _, fun e hel => ?_⟩
      have heD : e ≠ D := fun z => by
        rw [z, kD5] at hel
        cases hel
      have her : e ≠ rl := fun z => by
        rw [z, kr5] at hel
        cases hel
      have hef : fl ≠ e := fun z => by
        rw [← z, k5] at hel
        cases hel
      refine ⟨.list (fnd.map PyData.int), .list (([] : List Int).map PyData.int), .lst (sqd (by rw [upd_ne hef]; exact k5)) (dp_intsG _), .lst (sqd upd_same) .nil, shaped_lstG _, shaped_lstG _, ?_⟩
      refine ⟨fnd, kvs', some (.ref fl), y9, ?_, s5.trans (.of (same_new hel _)), rfl, by rw [upd_ne (Ne.symm her)]; exact kr5, by rw [upd_ne (Ne.symm heD)]; exact kD5, ?_, hy5, by omega⟩
      · cases fnd with
        | nil => rfl
        | cons a r => rfl
      · have hmk : ∀ p, mr A0 side am M k p = f p := fun p => by rw [hf]
        have hin1 : ∀ p, p ∈ fnd → f p = false ∧ mr A0 side am M (k + 1) p = true := fun p hp => by
          rw [← hfnd, List.mem_filter, ← ht] at hp
          obtain ⟨h1, h2⟩ := hp
          rw [Bool.and_eq_true] at h2
          refine ⟨by simpa using h2.1, ?_⟩
          rw [hfs]
          show (f p || (decide (p ∈ am) && frcM side (psO A0 p) f)) = true
          rw [decide_eq_true h1, h2.2, Bool.true_and, Bool.or_true]
        have hin2 : ∀ p, f p = false → mr A0 side am M (k + 1) p = true → p ∈ fnd := fun p h1 h2 => by
          rw [hfs] at h2
          have h3 : (f p || (decide (p ∈ am) && frcM side (psO A0 p) f)) = true := h2
          rw [h1, Bool.false_or, Bool.and_eq_true] at h3
          rw [← hfnd, List.mem_filter, ← ht]
          exact ⟨of_decide_eq_true h3.1, by simp [h1, h3.2]⟩
        intro p
        rw [hv5 p]
        refine ⟨fun h => ?_, fun h1 h2 => ?_⟩
        · have hno : p ∉ fnd := fun hp => by
            obtain ⟨g1, g2⟩ := hin1 p hp
            rcases h with h | h
            · rw [h] at g2
              cases g2
            · have : mr A0 side am M k p = true := mr_le (Nat.zero_le k) h
              rw [hmk, g1] at this
              cases this
          rw [if_neg hno]
          refine (hdk p).1 ?_
          rcases h with h | h
          · left
            cases hk2 : mr A0 side am M k p with
            | false => rfl
            | true =>
              rw [mr_up hk2] at h
              cases h
          · exact .inr h
        · by_cases hp : p ∈ fnd
          · rw [if_pos hp]
            refine ⟨k + 1, Nat.le_refl _, rfl, h1, fun j hj => ?_⟩
            cases hj2 : mr A0 side am M j p with
            | false => rfl
            | true =>
              have := mr_le (show j ≤ k by omega) hj2
              rw [hmk, (hin1 p hp).1] at this
              cases this
          · rw [if_neg hp]
            have hk2 : mr A0 side am M k p = true := by
              rw [hmk]
              cases hfp : f p with
              | true => rfl
              | false => exact absurd (hin2 p hfp h1) hp
            obtain ⟨r, hr1, hr2, hr3, hr4⟩ := (hdk p).2 hk2 h2
            exact ⟨r, by omega, hr2, hr3, hr4⟩
end
end NL

set_option maxHeartbeats 4000000
namespace NL
open PySem PySem.Spec PyProof.Rows L2
theorem rgA_ints (a b : Int) : rgV a b = ((List.range (b - a).toNat).map fun i : Nat => a + (i : Int)).map V.int := by
  unfold rgV
  rw [List.map_map] <;> rfl
def psA (n : Nat) : List Int := (List.range n).map fun i : Nat => (i : Int)
theorem psA_mem {n : Nat} {p : Int} : p ∈ psA n ↔ 0 ≤ p ∧ p < (n : Int) := by
  unfold psA
  rw [List.mem_map]
  constructor
  · rintro ⟨i, hi, rfl⟩
    have := List.mem_range.mp hi
    omega
  · rintro ⟨h0, h1⟩
    exact ⟨p.toNat, List.mem_range.mpr (by omega), by omega⟩
theorem psA_len (n : Nat) : (psA n).length = n := by
  unfold psA
  rw [List.length_map, List.length_range]
theorem op_in_seqK {X : Cx} {K : PySem.W.Frag} (h : X.K = K) : OpR X (compareOp .In) (rIn K false) := by
  subst h
  exact op_in_seq
theorem op_notIn_seqK {X : Cx} {K : PySem.W.Frag} (h : X.K = K) : OpR X (compareOp .NotIn) (rIn K true) := by
  subst h
  exact op_notIn_seq
theorem SqT.same {K : PySem.W.Frag} {H H' : Hp} {a : Addr} {xs : List V} (s : Same H H') (h : SqT K H a xs) : SqT K H' a xs := (Sm.of (P := 0) s).seqT h
def rkV : Option Nat → V
  | none => .non
  | some r => .int (r : Nat)
def mkO (o : Bool) (B : Int → Bool) : Mk' := fun p => if p = -1 then o else B p
theorem bsO_mkO (n : Nat) (o : Bool) (B : Int → Bool) : bsO n (mkO o B) = ((List.range n).map fun i : Nat => B (i : Int)) ++ [o] := by
  unfold bsO
  have h : ∀ k : Nat, mkO o B (k : Int) = B (k : Int) := fun k => if_neg (by omega)
  rw [show mkO o B (-1) = o from if_pos rfl, show (fun i : Nat => mkO o B (i : Int)) = fun i : Nat => B (i : Int) from funext h]
theorem dec_V {a b : Int} : decide (V.int a = V.int b) = decide (a = b) := by
  rw [dec_int, Bool.beq_eq_decide_eq]
end NL

namespace NL
open PySem PySem.Spec PyProof.Rows L2
/-! ### a list of ints by places -/
def lzF (n : Nat) (φ : Nat → Int) : List Int := (List.range n).map φ
theorem lzF_len (n : Nat) (φ : Nat → Int) : (lzF n φ).length = n := by unfold lzF; rw [List.length_map, List.length_range]
theorem lzF_at {n : Nat} {φ : Nat → Int} {k : Nat} (h : k < n) : (lzF n φ)[k]? = some (φ k) := by
  unfold lzF
  rw [List.getElem?_map, List.getElem?_range h]
  rfl
theorem lzF_get {n : Nat} {φ : Nat → Int} {k : Int} (h0 : 0 ≤ k) (h1 : k < n) : atI ((lzF n φ).map V.int) k = some (.int (φ k.toNat)) := by
  have := atI_nat (j := k.toNat) (show ((lzF n φ).map V.int)[k.toNat]? = some (V.int (φ k.toNat)) by rw [List.getElem?_map, lzF_at (by omega)]; rfl)
  rw [show ((k.toNat : Nat) : Int) = k by omega] at this
  exact this
theorem lzF_ext {n : Nat} {φ ψ : Nat → Int} (h : ∀ k, k < n → φ k = ψ k) : lzF n φ = lzF n ψ := List.map_congr_left fun k hk => h k (List.mem_range.mp hk)
theorem lzF_inj {n : Nat} {φ ψ : Nat → Int} (h : lzF n φ = lzF n ψ) (k : Nat) (hk : k < n) : φ k = ψ k := by
  have := lzF_at (φ := φ) hk
  rw [h, lzF_at hk] at this
  exact (Option.some.inj this).symm
theorem lzF_set {n i : Nat} {φ : Nat → Int} {c : Int} (hi : i < n) : ((lzF n φ).map V.int).set i (.int c) = (lzF n fun k => if k = i then c else φ k).map V.int := by
  refine List.ext_getElem? fun k => ?_
  rw [List.getElem?_set]
  by_cases hk : i = k
  · subst hk
    rw [if_pos rfl, if_pos (by rw [List.length_map, lzF_len]; exact hi), List.getElem?_map, lzF_at hi, Option.map_some, if_pos rfl]
  · rw [if_neg hk, List.getElem?_map, List.getElem?_map]
    rcases Nat.lt_or_ge k n with h | h
    · rw [lzF_at h, lzF_at h, if_neg (fun e => hk e.symm)]
    · rw [List.getElem?_eq_none (by rw [lzF_len]; exact h), List.getElem?_eq_none (by rw [lzF_len]; exact h)]
theorem lzF_snoc (n : Nat) (φ : Nat → Int) : (lzF (n + 1) φ).map V.int = (lzF n φ).map V.int ++ [V.int (φ n)] := by
  unfold lzF
  rw [List.range_succ, List.map_append, List.map_append]
  rfl
theorem eqv_intsG : ∀ l m : List Int, PyData.eqvAll (l.map PyData.int) (m.map PyData.int) = true → l = m
  | [], [], _ => rfl
  | [], b :: m, h => by cases h
  | a :: l, [], h => by cases h
  | a :: l, b :: m, h => by
    have h' : ((a == b) && PyData.eqvAll (l.map PyData.int) (m.map PyData.int)) = true := h
    rw [Bool.and_eq_true] at h'
    rw [eq_of_beq h'.1, eqv_intsG l m h'.2]
theorem eqv_reflG : ∀ l : List Int, PyData.eqvAll (l.map PyData.int) (l.map PyData.int) = true
  | [] => rfl
  | a :: l => by
    show ((a == a) && PyData.eqvAll (l.map PyData.int) (l.map PyData.int)) = true
    rw [eqv_reflG l, beq_self_eq_true]
    rfl
theorem inT_intG {x : Int} {l : List Int} : (V.bl (if false = true then !inV (V.int x) (l.map V.int) else inV (V.int x) (l.map V.int))) = V.bl (decide (x ∈ l)) := by
  rw [if_neg Bool.false_ne_true, int_in]
/-! ### the rounds of marks, told as the round of each position (-1: none yet) -/
def hz (f : Nat → Mk') : Nat → Int → Int
  | 0, p => if f 0 p = true then 0 else -1
  | k + 1, p => if 0 ≤ hz f k p then hz f k p else if f (k + 1) p = true then ((k + 1 : Nat) : Int) else -1
theorem hz_ge (f : Nat → Mk') : ∀ k p, -1 ≤ hz f k p
  | 0, p => by unfold hz; split <;> omega
  | k + 1, p => by
    unfold hz
    split
    · exact hz_ge f k p
    · split <;> omega
theorem hz_le (f : Nat → Mk') : ∀ k p, hz f k p ≤ (k : Int)
  | 0, p => by unfold hz; split <;> omega
  | k + 1, p => by
    have := hz_le f k p
    unfold hz
    split
    · omega
    · split <;> omega
theorem up_le {f : Nat → Mk'} (up : ∀ k p, f k p = true → f (k + 1) p = true) {p : Int} {j k : Nat} (h : j ≤ k) (e : f j p = true) : f k p = true := by
  induction h with
  | refl => exact e
  | step _ ih => exact up _ _ ih
section
variable {f : Nat → Mk'} (up : ∀ k p, f k p = true → f (k + 1) p = true)
include up
theorem hz_says : ∀ k p, (hz f k p < 0 → f k p = false) ∧ (0 ≤ hz f k p → f k p = true ∧ f (hz f k p).toNat p = true ∧ ∀ j, j < (hz f k p).toNat → f j p = false)
  | 0, p => by
    unfold hz
    cases h : f 0 p with
    | true =>
      rw [if_pos rfl]
      exact ⟨fun z => absurd z (by decide), fun _ => ⟨rfl, h, fun j hj => absurd hj (Nat.not_lt_zero j)⟩⟩
    | false =>
      rw [if_neg Bool.false_ne_true]
      exact ⟨fun _ => rfl, fun z => absurd z (by decide)⟩
  | k + 1, p => by
    obtain ⟨h1, h2⟩ := hz_says k p
    unfold hz
    by_cases h : 0 ≤ hz f k p
    · rw [if_pos h]
      obtain ⟨g1, g2, g3⟩ := h2 h
      exact ⟨fun z => absurd h (by omega), fun _ => ⟨up k p g1, g2, g3⟩⟩
    · rw [if_neg h]
      have hk := h1 (by omega)
      cases hf : f (k + 1) p with
      | true =>
        rw [if_pos rfl]
        refine ⟨fun z => by omega, fun _ => ⟨rfl, hf, fun j hj => ?_⟩⟩
        have hj2 : j ≤ k := by
          have : (((k + 1 : Nat) : Int)).toNat = k + 1 := Int.toNat_natCast _
          omega
        cases hfj : f j p with
        | false => rfl
        | true =>
          have : f k p = true := up_le up hj2 hfj
          rw [this] at hk
          cases hk
      | false =>
        rw [if_neg Bool.false_ne_true]
        exact ⟨fun _ => rfl, fun z => absurd z (by decide)⟩
end
def zOf : Option Nat → Int
  | none => -1
  | some r => (r : Nat)
end NL

set_option maxHeartbeats 4000000
namespace NL
open PySem PySem.Spec PyProof.Rows L2
/-! ### the arenas of these laws -/
theorem cut_pre {xs : List V} {k : Nat} : cutV xs none (some (k : Int)) = xs.take k := by
  unfold cutV
  rw [HT.sIx_none, show HT.sIx xs.length xs.length (some (k : Int)) = min k xs.length from HT.sIx_nat _ _ _, List.drop_zero, Nat.sub_zero]
  by_cases h : k ≤ xs.length
  · rw [Nat.min_eq_left h]
  · rw [Nat.min_eq_right (by omega), List.take_length, List.take_of_length_le (by omega)]
theorem slA_of {K : PySem.W.Frag} {a : Addr} {xs : List V} {lo hi : Option Int} {H : Hp} {Q : VK} (ha : H a = some (.tup xs)) (q : ∀ p H', Same H H' → H' p = some (.tup (cutV xs lo hi)) → Q (.ref p) H') : rSlA K (.ref a) lo hi H Q := by
  refine ⟨a, xs, rfl, sqt ha, fun h => ?_, fun _ p hp => q p _ (same_new hp _) upd_same⟩
  refine q a H (Same.refl H) ?_
  have : cutV xs lo hi = xs := by
    unfold cutV
    rw [h.1, h.2, List.drop_zero, Nat.sub_zero]
    exact List.take_length
  rw [this]
  exact ha
theorem catA_of {K : PySem.W.Frag} {a b : Addr} {xs ys : List V} {H : Hp} {Q : VK} (ha : H a = some (.tup xs)) (hb : H b = some (.tup ys)) (hl : xs.length + ys.length ≤ 1000) (q : ∀ p H', Same H H' → H' p = some (.tup (xs ++ ys)) → Q (.ref p) H') : rCatA K (.ref a) (.ref b) H Q := by
  refine ⟨a, b, xs, ys, rfl, rfl, sqt ha, sqt hb, big (by omega), fun h => ?_, fun _ h => ?_, fun _ _ p hp => ?_⟩
  · exact q b H (Same.refl H) (by rw [h, List.nil_append]; exact hb)
  · exact q a H (Same.refl H) (by rw [h, List.append_nil]; exact ha)
  · exact q p _ (same_new hp _) upd_same
theorem rgS_good {u n : Int} (h0 : 0 ≤ u) (h1 : u < 2) (hn : 0 < n) (hm : n ≤ 46) : OptG n ((List.range (n - (-u)).toNat).map fun i : Nat => (-u) + (i : Int)) := by
  refine ⟨fun e => ?_, ?_, fun s hs => ?_, ?_⟩
  · have h := congrArg List.length e
    rw [List.length_map, List.length_range, List.length_nil] at h
    omega
  · rw [List.length_map, List.length_range]
    omega
  · obtain ⟨i, hi, rfl⟩ := List.mem_map.mp hs
    have := List.mem_range.mp hi
    omega
  · rw [List.pairwise_map]
    exact List.pairwise_lt_range.imp fun {a b} h => by omega
theorem cut_from {l : List V} {k : Nat} : cutV l (some (k : Int)) none = l.drop k := by
  unfold cutV
  rw [HT.sIx_none, show HT.sIx l.length 0 (some (k : Int)) = min k l.length from HT.sIx_nat _ _ _]
  by_cases h : k ≤ l.length
  · rw [Nat.min_eq_left h]
    exact List.take_of_length_le (by rw [List.length_drop]; omega)
  · rw [Nat.min_eq_right (by omega), List.drop_length, List.drop_eq_nil_of_le (by omega)]
    exact List.take_nil
theorem cut_mid {l : List V} : cutV l (some 1) (some 2) = (l.drop 1).take 1 := by
  unfold cutV
  rw [show HT.sIx l.length 0 (some 1) = min 1 l.length from HT.sIx_nat _ _ _, show HT.sIx l.length l.length (some 2) = min 2 l.length from HT.sIx_nat _ _ _]
  match l with
  | [] => rfl
  | [a] => rfl
  | a :: b :: r =>
    rw [show min 1 (a :: b :: r).length = 1 by rw [List.length_cons, List.length_cons]; omega, show min 2 (a :: b :: r).length = 2 by rw [List.length_cons, List.length_cons]; omega]
section
variable {P : Program} {w : World} {K : PySem.W.Frag} {mg : Str → Option Value} {base : Heap}
/-! ### _law_distinct -/
def spDistinct (K : PySem.W.Frag) : Sp := fun vs H Q _ => ∃ (l : Addr) (ns : List Int), vs = [.ref l] ∧ SqL K H l (ns.map V.int) ∧ ns.length ≤ 1000 ∧ ∀ (p : Addr) (fs : List Int) H', Same H H' → H p = none → H' p = some (.lst (fs.map V.int)) → fs.Nodup → (∀ x, x ∈ fs ↔ x ∈ ns) → fs.length ≤ ns.length → Q (.ref p) H'
theorem ok_law_distinct (T : Txt K mg) : FnOk P w K mg base CX0 1 T.a_law_distinct T.d_law_distinct P_law_distinct (spDistinct K) := by
  refine T.F_law_distinct.ok sc_law_distinct (fun vs H Q E h => ?_) (fun cdv A outer s H vs Q E hr h => ?_)
  · obtain ⟨l, ns, rfl, _⟩ := h
    rfl
  obtain ⟨l, ns, rfl, hl, hn, q⟩ := h
  refine ⟨_, (pss_cons (ps_set (i := 1) sc_law_distinct.nd rfl (Or.inl rfl) (pe_lst pa_nil))
    (pss_cons (ps_for  PassesOwn.never rfl (pi_list (pv 0)) (pg_name (i := 2) sc_law_distinct.nd rfl (Or.inl rfl))
    (pss_one (ps_if (pt_cmpR op_notIn_seq (pv 2) (pv 1) (by rfl))
    (pss_one (ps_expr (pe_bm PySem.F.plainAttrs_list PySem.F.slot_list_append PySem.F.type_list_append mt_append (pv 1) (pa_cons (pv 2) pa_nil))))
    pss_nil)))
    (pss_one (ps_ret (pv 1))))), ?_⟩
  refine ⟨Nat.zero_le _, fun p hp => ?_⟩
  obtain ⟨H1, e1, s1, k1⟩ := newH hp (.lst [])
  rw [e1]
  refine ⟨_, rfl, l, rfl, ⟨_, s1.seq hl⟩, ?_⟩
  refine for_list (K := K) (a := l) (xs := ns.map V.int) (fun (j : Nat) (σ : L2.St) (H' : Hp) => ∃ (fs : List Int) (y : Option V), σ = [some (.ref l), some (.ref p), y] ∧ Same H H' ∧ H' p = some (.lst (fs.map V.int)) ∧ fs.Nodup ∧ (∀ x, x ∈ fs ↔ x ∈ ns.take j) ∧ fs.length ≤ j) ?_ ?_ ?_ ?_
  · exact ⟨[], _, rfl, s1, k1, List.nodup_nil, fun x => by rw [List.take_zero], Nat.le_refl 0⟩
  · rintro j σ H' _ ⟨fs, y, rfl, s2, _⟩
    exact s2.seq hl
  · rintro j x σ H2 hx ⟨fs, y, rfl, s2, k2, hnd, hm, hfl⟩
    rw [List.getElem?_map] at hx
    obtain ⟨c, hc, rfl⟩ := Option.map_eq_some_iff.mp hx
    have hj := (List.getElem?_eq_some_iff.mp hc).1
    refine ⟨_, rfl, _, rfl, p, _, rfl, .inl (sqd k2), rfl, flat_ints' fs, _, rfl, ?_⟩
    by_cases hin : c ∈ fs
    · refine ifF (by rw [notIn_int, decide_eq_true hin] <;> rfl) ?_
      refine ⟨fs, _, rfl, s2, k2, hnd, fun x => ?_, by omega⟩
      rw [foldK_take hc, hm]
      exact ⟨fun h => .inl h, fun h => h.elim id fun e => by rw [e]; exact (hm c).mp hin⟩
    · refine ifT (by rw [notIn_int, decide_eq_false hin] <;> rfl) ?_
      refine ⟨_, rfl, .inl ⟨rfl, _, sqd k2⟩, _, rfl, p, _, _, rfl, rfl, k2, big' (by rw [List.length_map]; omega), ?_⟩
      refine ⟨fs ++ [c], _, rfl, same_put s2 hp, by rw [upd_same, List.map_append]; rfl, ?_, fun x => ?_, by rw [List.length_append]; exact Nat.succ_le_succ hfl⟩
      · exact List.nodup_append.mpr ⟨hnd, by simp, fun a ha b hb e => hin (by rw [← List.mem_singleton.mp hb, ← e]; exact ha)⟩
      · rw [List.mem_append, List.mem_singleton, hm, foldK_take hc]
  · rintro σ H2 ⟨fs, y, rfl, s2, k2, hnd, hm, hfl⟩
    rw [List.length_map] at hfl
    simp only [List.length_map, List.take_length] at hm
    exact ⟨_, rfl, q p fs H2 s2 hp k2 hnd hm hfl⟩
/-! ### _law_options -/
def spOptions (K : PySem.W.Frag) : Sp := fun vs H Q _ => ∃ (d sz : Addr) (n B : Int) (S : List Int), vs = [.ref d, .int n, .ref sz] ∧ Dr H d ∧ 0 < n ∧ n ≤ 46 ∧ B ≤ 6 ∧ sz ≠ d ∧ H sz = some (.lst (S.map V.int)) ∧ 0 < S.length ∧ S.length ≤ 100 ∧ (∀ x ∈ S, 0 ≤ x ∧ x ≤ B) ∧
  ∀ v os H', Go d H H' → PosIn H' os v → (os.length : Int) ≤ B → (∀ o ∈ os, OptG n o) → Q v H'
theorem ok_law_options (T : Txt K mg) : FnOk P w K mg base CX0 2 T.a_law_options T.d_law_options P_law_options (spOptions K) := by
  have G_law_take := ok_law_take (P := P) (w := w) (base := base) T
  refine T.F_law_options.ok sc_law_options (fun vs H Q E h => ?_) (fun cdv A outer s H vs Q E hr h => ?_)
  · obtain ⟨d, sz, n, B, S, rfl, _⟩ := h
    rfl
  obtain ⟨d, sz, n, B, S, rfl, hD, hn0, n46, hB, hsd, hsz, hS0, hS1, hS2, q⟩ := h
  refine ⟨_, (pss_cons (ps_set (i := 3) sc_law_options.nd rfl (Or.inl rfl) (pe_lst pa_nil))
    (pss_cons (ps_for  PassesOwn.never rfl (pi_range1 (by rfl) T.z_range (pa_cons (pe_ix ix_list (pv 2) (pe_call G_law_take (hr.mono (by omega)) (by rfl) T.m_law_take T.F_law_take.kp T.b_law_take .nil pass0 (pa_cons (pv 0) (pa_cons (pe_callB call_len_seq (by rfl) T.z_len PySem.boot_len (pa_cons (pv 2) pa_nil)) pa_nil))) (fun _ _ => rfl)) pa_nil)) (pg_name (i := 4) sc_law_options.nd rfl (Or.inl rfl))
    (pss_cons (ps_set (i := 5) sc_law_options.nd rfl (Or.inl rfl) (pe_lst pa_nil))
    (pss_cons (ps_for  PassesOwn.never rfl (pi_range1 (by rfl) T.z_range (pa_cons (pe_ix ix_list (pe_lst (pa_cons pe_int (pa_cons pe_int (pa_cons pe_int (pa_cons pe_int (pa_cons pe_int (pa_cons pe_int (pa_cons pe_int pa_nil)))))))) (pe_call G_law_take (hr.mono (by omega)) (by rfl) T.m_law_take T.F_law_take.kp T.b_law_take .nil pass0 (pa_cons (pv 0) (pa_cons pe_int pa_nil))) (fun _ _ => rfl)) pa_nil)) (pg_name (i := 6) sc_law_options.nd rfl (Or.inl rfl))
    (pss_cons (ps_set (i := 7) sc_law_options.nd rfl (Or.inl rfl) (pe_call G_law_take (hr.mono (by omega)) (by rfl) T.m_law_take T.F_law_take.kp T.b_law_take .nil pass0 (pa_cons (pv 0) (pa_cons (pv 1) pa_nil))))
    (C8.pss_cut (ps_if (pt_cmpR op_eq (pe_call G_law_take (hr.mono (by omega)) (by rfl) T.m_law_take T.F_law_take.kp T.b_law_take .nil pass0 (pa_cons (pv 0) (pa_cons pe_int pa_nil))) pe_int (nomark _))
    (pss_one (ps_set (i := 7) sc_law_options.nd rfl (Or.inl rfl) (pe_un un_neg pe_int)))
    pss_nil)
    (pss_one (ps_if (pt_cmpR op_notIn_seq (pv 7) (pv 5) (by rfl))
    (pss_one (ps_expr (pe_bm PySem.F.plainAttrs_list PySem.F.slot_list_append PySem.F.type_list_append mt_append (pv 5) (pa_cons (pv 7) pa_nil))))
    pss_nil)))))
    (pss_one (ps_expr (pe_bm PySem.F.plainAttrs_list PySem.F.slot_list_append PySem.F.type_list_append mt_append (pv 3) (pa_cons (pe_callTy call_tuple_of (by rfl) T.z_tuple (by decide +kernel) (pa_cons (pe_callB (cr_sorted) (by rfl) T.z_sorted (by decide +kernel) (pa_cons (pv 5) pa_nil)) pa_nil)) pa_nil)))))))
    (pss_one (ps_ret (pe_callTy call_tuple_of (by rfl) T.z_tuple (by decide +kernel) (pa_cons (pv 3) pa_nil)))))), ?_⟩
  refine ⟨Nat.zero_le _, fun ol hol => ?_⟩
  have nol := new_ne hD hol
  obtain ⟨H1, e1, s1, k1⟩ := newH hol (.lst [])
  rw [e1]
  have g1 := Go.same hD s1
  refine ⟨_, rfl, _, rfl, _, rfl, sz, _, rfl, .inl (sqd (s1 _ _ hsz)), d, _, rfl, g1.dr, by rw [List.length_map]; omega, fun u H2 g2 u0 u1 => ?_⟩
  have esz := g2.fr sz _ hsd (s1 _ _ hsz)
  rw [List.length_map] at u1
  obtain ⟨mm, hmm, hmmem⟩ := atI_map (f := V.int) (xs := S) u0 u1
  have hmb := hS2 mm hmmem
  refine ⟨sz, _, _, _, rfl, rfl, sqd esz, hmm, mm, rfl, by omega, by omega, ?_⟩
  have g12 := g1.trans g2
  have e2o := g2.fr ol _ nol k1
  refine for_range (lo := 0) (n := mm.toNat) (fun (i : Nat) (σ : L2.St) (H' : Hp) => ∃ (zs : List V) (os : Pos') (y4 y5 y6 y7 : Option V), σ = [some (.ref d), some (.int n), some (.ref sz), some (.ref ol), y4, y5, y6, y7] ∧ Go d H H' ∧ H' ol = some (.lst zs) ∧ Each (OptIn H') os zs ∧ os.length = i ∧ ∀ o ∈ os, OptG n o) ?_ ?_ ?_
  · exact ⟨[], [], _, _, _, _, rfl, g12, e2o, .nil, rfl, fun o h => nomatch h⟩
  · rintro i σ H10 hi ⟨zs, os, y4, y5, y6, y7, rfl, g10, e10, hzs, hos, hG2⟩
    generalize hk2 : (0 : Int) + (i : Int) = k2
    refine ⟨Nat.zero_le _, fun fl hfl => ?_⟩
    have nfl := new_ne g10.dr hfl
    obtain ⟨H11, e11, s11, k11⟩ := newH hfl (.lst [])
    rw [e11]
    have ga := Go.same g10.dr s11
    refine ⟨Nat.le_of_ble_eq_true rfl, fun l5 hl5 => ?_⟩
    obtain ⟨H12, e12, s12, k12⟩ := newH hl5 (.lst [.int 1, .int 1, .int 1, .int 2, .int 2, .int 3, .int 4])
    rw [e12]
    have gb := ga.trans (.same ga.dr s12)
    refine ⟨_, rfl, d, 7, rfl, gb.dr, by decide, fun u5 H13 g13' a5 b5 => ?_⟩
    have n5 := new_ne ga.dr hl5
    obtain ⟨mf, hmf, hmfm⟩ := atI_map (f := V.int) (xs := ([1, 1, 1, 2, 2, 3, 4] : List Int)) a5 b5
    have hmf3 : 1 ≤ mf ∧ mf ≤ 4 := by
      simp only [List.mem_cons, List.not_mem_nil, or_false] at hmfm
      omega
    refine ⟨l5, _, _, _, rfl, rfl, sqd (g13'.fr l5 _ n5 k12), hmf, mf, rfl, by omega, by omega, ?_⟩
    have gc2 := gb.trans g13'
    have ef13 := g13'.fr fl _ nfl (s12 _ _ k11)
    refine for_range (lo := 0) (n := mf.toNat) (fun (t : Nat) (σ : L2.St) (H' : Hp) => ∃ (fs : List Int) (y6 y7 : Option V), σ = [some (.ref d), some (.int n), some (.ref sz), some (.ref ol), some (.int k2), some (.ref fl), y6, y7] ∧ Go d H10 H' ∧ H' fl = some (.lst (fs.map V.int)) ∧ fs.Nodup ∧ fs.length ≤ t ∧ (∀ s ∈ fs, -1 ≤ s ∧ s < n) ∧ (0 < t → fs ≠ [])) ?_ ?_ ?_
    · exact ⟨[], _, _, rfl, gc2, ef13, List.nodup_nil, Nat.zero_le _, fun s h => (nomatch h), fun h => absurd h (by omega)⟩
    · rintro t σ H14 ht ⟨fs, y6, y7, rfl, g14', e14, hnd, hlen, hmem, hne⟩
      generalize hk3 : (0 : Int) + (t : Int) = k3
      refine ⟨_, rfl, _, rfl, d, n, rfl, g14'.dr, hn0, fun dr H15 g15' d0 d1 => ?_⟩
      have e15 := g15'.fr fl _ nfl e14
      refine ⟨fun σ H' => ∃ sc : Int, σ = [some (.ref d), some (.int n), some (.ref sz), some (.ref ol), some (.int k2), some (.ref fl), some (.int k3), some (.int sc)] ∧ Go d H15 H' ∧ -1 ≤ sc ∧ sc < n, ?_, ?_⟩
      · refine ⟨_, rfl, d, 14, rfl, g15'.dr, by decide, fun u6 H16 g16 _ _ => ⟨rfl, _, rfl, ?_⟩⟩
        refine ite2 (fun z => ?_) (fun z => ?_)
        · exact ⟨_, rfl, -1, rfl, g16, by omega, by omega⟩
        · exact ⟨dr, rfl, g16, by omega, d1⟩
      rintro σ H16 ⟨sc, rfl, g16, c0, c1⟩
      have e16 := g16.fr fl _ nfl e15
      have g1016 := (g14'.trans g15').trans g16
      refine ⟨_, rfl, _, rfl, fl, _, rfl, .inl (sqd e16), rfl, flat_ints' fs, _, rfl, ?_⟩
      by_cases hin : sc ∈ fs
      · refine ifF (by rw [notIn_int, decide_eq_true hin] <;> rfl) ?_
        exact ⟨fs, _, _, rfl, g1016, e16, hnd, by omega, hmem, fun _ e => by rw [e] at hin; cases hin⟩
      · refine ifT (by rw [notIn_int, decide_eq_false hin] <;> rfl) ?_
        refine ⟨_, rfl, .inl ⟨rfl, _, sqd e16⟩, _, rfl, fl, _, _, rfl, rfl, e16, big' (by rw [List.length_map]; omega), ?_⟩
        refine ⟨fs ++ [sc], _, _, rfl, g1016.put2 hfl nfl, by rw [upd_same, List.map_append]; rfl, ?_, ?_, ?_, fun _ => by simp⟩
        · exact List.nodup_append.mpr ⟨hnd, by simp, fun a ha b hb e => hin (by rw [← List.mem_singleton.mp hb, ← e]; exact ha)⟩
        · rw [List.length_append]
          exact Nat.add_le_add_right hlen 1
        · intro s hs
          rcases List.mem_append.mp hs with hs | hs
          · exact hmem s hs
          · rw [List.mem_singleton.mp hs]
            exact ⟨c0, c1⟩
    · rintro σ H14 ⟨fs, y6, y7, rfl, g14', e14, hnd, hlen, hmem, hne⟩
      have e14o := g14'.fr ol _ nol e10
      refine ⟨_, rfl, .inl ⟨rfl, _, sqd e14o⟩, _, rfl, fl, fs, rfl, sqd e14, by omega, fun ns q1 hperm hpw hq1 => ?_⟩
      obtain ⟨Hd, ed, sd, kd⟩ := newH hq1 (.lst (ns.map V.int))
      rw [ed]
      refine ⟨q1, _, rfl, .inl ⟨sqd kd, fun t2 ht2 => ?_⟩⟩
      obtain ⟨He, ee, se, ke⟩ := newH ht2 (.tup (ns.map V.int))
      rw [ee]
      have sde := sd.trans se
      have eoe := sde _ _ e14o
      have hzl := hzs.1
      refine ⟨ol, zs, _, rfl, rfl, eoe, big' (by omega), ?_⟩
      have ge := g14'.trans (.same g14'.dr sde)
      have tpx : Tp H10 (upd He ol (.lst (zs ++ [.ref t2]))) := tp_put (ge.tp g10.dr) eoe
      have nt2 : t2 ≠ ol := fun e => by
        rw [e, sd _ _ e14o] at ht2
        cases ht2
      refine ⟨zs ++ [.ref t2], os ++ [ns], _, _, _, _, rfl, (g10.trans ge).put2 hol nol, upd_same, ?_, by rw [List.length_append, hos]; rfl, ?_⟩
      · refine (hzs.mono fun o x => OptIn.tp tpx).snoc ⟨t2, rfl, ?_⟩
        rw [upd_ne nt2]
        exact ke
      · intro o ho
        rcases List.mem_append.mp ho with ho | ho
        · exact hG2 o ho
        · rw [List.mem_singleton.mp ho]
          refine ⟨fun e => ?_, by have := hperm.length_eq; omega, fun s hs => hmem s (hperm.mem_iff.mp hs), asc_of hperm hnd hpw⟩
          rw [e] at hperm
          exact hne (by omega) hperm.symm.eq_nil
  · rintro σ H10 ⟨zs, os, y4, y5, y6, y7, rfl, g10, e10, hzs, hos, hG2⟩
    refine ⟨_, rfl, ol, zs, rfl, .inl ⟨sqd e10, fun t ht => ?_⟩⟩
    have st := same_new ht (.tup zs)
    exact q _ os _ (g10.trans (.same g10.dr st)) ⟨t, zs, rfl, upd_same, hzs.mono fun o x => OptIn.tp (Tp.same st)⟩ (by omega) hG2
/-! ### _law_arena -/
theorem opt_two {n a b : Int} {fs ns : List Int} (ha : 0 ≤ a ∧ a < n) (hb : 0 ≤ b ∧ b < n) (hnd : fs.Nodup) (hm : ∀ x, x ∈ fs ↔ x ∈ [a, b]) (hl : fs.length ≤ 2) (hperm : ns.Perm fs) (hpw : ns.Pairwise (· ≤ ·)) : OptG n ns := by
  have hmem : ∀ s ∈ ns, 0 ≤ s ∧ s < n := fun s hs => by
    have := (hm s).mp (hperm.mem_iff.mp hs)
    rcases List.mem_cons.mp this with h | h
    · rw [h]; exact ha
    · rw [List.mem_singleton.mp h]; exact hb
  refine ⟨fun e => ?_, by have := hperm.length_eq; omega, fun s hs => by have := hmem s hs; omega, asc_of hperm hnd hpw⟩
  have : a ∈ ns := hperm.mem_iff.mpr ((hm a).mpr (List.mem_cons_self ..))
  rw [e] at this
  cases this
def spArena : Sp := fun vs H Q _ => ∃ (d : Addr) (most : Int), vs = [.ref d, .int most] ∧ Dr H d ∧ 0 ≤ most ∧ most ≤ 45 ∧ ∀ v A H', Go d H H' → ArIn H' A v → ArG A → Q v H'
theorem ok_law_arena (T : Txt K mg) : FnOk P w K mg base CX0 3 T.a_law_arena T.d_law_arena P_law_arena spArena := by
  have G_law_take := ok_law_take (P := P) (w := w) (base := base) T
  have G_law_options := ok_law_options (P := P) (w := w) (base := base) T
  have G_law_distinct := ok_law_distinct (P := P) (w := w) (base := base) T
  refine T.F_law_arena.ok sc_law_arena (fun vs H Q E h => ?_) (fun cdv A outer s H vs Q E hr h => ?_)
  · obtain ⟨d, most, rfl, _⟩ := h
    rfl
  obtain ⟨d, most, rfl, hD, m0, m1, q⟩ := h
  refine ⟨_, (pss_cons (ps_set (i := 2) sc_law_arena.nd rfl (Or.inl rfl) (pe_call G_law_take (hr.mono (by omega)) (by rfl) T.m_law_take T.F_law_take.kp T.b_law_take .nil pass0 (pa_cons (pv 0) (pa_cons (pe_op op_add (pv 1) pe_int) pa_nil))))
    (pss_cons (ps_set (i := 3) sc_law_arena.nd rfl (Or.inl rfl) (pe_call G_law_take (hr.mono (by omega)) (by rfl) T.m_law_take T.F_law_take.kp T.b_law_take .nil pass0 (pa_cons (pv 0) (pa_cons pe_int pa_nil))))
    (pss_cons (ps_set (i := 4) sc_law_arena.nd rfl (Or.inl rfl) (pe_lst pa_nil))
    (pss_cons (ps_for  PassesOwn.never rfl (pi_range1 (by rfl) T.z_range (pa_cons (pv 2) pa_nil)) (pg_name (i := 5) sc_law_arena.nd rfl (Or.inl rfl))
    (pss_cons (ps_set (i := 6) sc_law_arena.nd rfl (Or.inl rfl) (pe_call G_law_options (hr.mono (by omega)) (by rfl) T.m_law_options T.F_law_options.kp T.b_law_options .nil pass0 (pa_cons (pv 0) (pa_cons (pv 2) (pa_cons (pe_lst (pa_cons pe_int (pa_cons pe_int (pa_cons pe_int (pa_cons pe_int (pa_cons pe_int (pa_cons pe_int pa_nil))))))) pa_nil)))))
    (C8.pss_cut (ps_if (pt_cmpR op_eq (pv 3) pe_int (nomark _))
    (pss_one (ps_set (i := 6) sc_law_arena.nd rfl (Or.inl rfl) (pe_op op_catA (pe_tup (pa_cons (pe_callTy call_tuple_of (by rfl) T.z_tuple (by decide +kernel) (pa_cons (pe_callB (cr_sorted) (by rfl) T.z_sorted (by decide +kernel) (pa_cons (pe_call G_law_distinct (hr.mono (by omega)) (by rfl) T.m_law_distinct T.F_law_distinct.kp T.b_law_distinct .nil pass0 (pa_cons (pe_lst (pa_cons (pe_callB (call_min2 rfl) (by rfl) T.z_min (by decide +kernel) (pa_cons (pe_op op_add (pv 5) pe_int) (pa_cons (pe_op op_sub (pv 2) pe_int) pa_nil))) (pa_cons (pe_callB (call_min2 rfl) (by rfl) T.z_min (by decide +kernel) (pa_cons (pe_op op_add (pv 5) pe_int) (pa_cons (pe_op op_sub (pv 2) pe_int) pa_nil))) pa_nil))) pa_nil)) pa_nil)) pa_nil)) pa_nil)) (pe_slice sl_tupA (pv 6) (po_some pe_int) (po_some pe_int)))))
    pss_nil)
    (C8.pss_cut (ps_if (pt_cmpR op_eq (pv 3) pe_int (nomark _))
    (pss_one (ps_set (i := 6) sc_law_arena.nd rfl (Or.inl rfl) (pe_op op_catA (pe_tup (pa_cons (pe_callTy call_tuple_of (by rfl) T.z_tuple (by decide +kernel) (pa_cons (pe_callB (cr_sorted) (by rfl) T.z_sorted (by decide +kernel) (pa_cons (pe_call G_law_distinct (hr.mono (by omega)) (by rfl) T.m_law_distinct T.F_law_distinct.kp T.b_law_distinct .nil pass0 (pa_cons (pe_lst (pa_cons (pe_callB (call_max2 rfl) (by rfl) T.z_max (by decide +kernel) (pa_cons (pe_op op_sub (pv 5) pe_int) (pa_cons pe_int pa_nil))) (pa_cons (pe_callB (call_max2 rfl) (by rfl) T.z_max (by decide +kernel) (pa_cons (pe_op op_sub (pv 5) pe_int) (pa_cons pe_int pa_nil))) pa_nil))) pa_nil)) pa_nil)) pa_nil)) pa_nil)) (pe_slice sl_tupA (pv 6) (po_some pe_int) po_none))))
    pss_nil)
    (C8.pss_cut (ps_if (PW.pt (pw_and (pt_cmpR op_eq (pv 3) pe_int (nomark _)) (pw_and1 (pt_cmpR op_eq (pv 5) pe_int (nomark _)))))
    (pss_one (ps_set (i := 6) sc_law_arena.nd rfl (Or.inl rfl) (pe_op op_catA (pe_op op_catA (pv 6) (pe_call G_law_options (hr.mono (by omega)) (by rfl) T.m_law_options T.F_law_options.kp T.b_law_options .nil pass0 (pa_cons (pv 0) (pa_cons (pv 2) (pa_cons (pe_lst (pa_cons pe_int (pa_cons pe_int (pa_cons pe_int pa_nil)))) pa_nil))))) (pe_tup (pa_cons (pe_tupRg rfl (by rfl) T.z_tuple (prg_2 (by rfl) T.z_range (pe_un un_neg (pe_call G_law_take (hr.mono (by omega)) (by rfl) T.m_law_take T.F_law_take.kp T.b_law_take .nil pass0 (pa_cons (pv 0) (pa_cons pe_int pa_nil)))) (pv 2))) pa_nil)))))
    pss_nil)
    (pss_one (ps_expr (pe_bm PySem.F.plainAttrs_list PySem.F.slot_list_append PySem.F.type_list_append mt_append (pv 4) (pa_cons (pv 6) pa_nil)))))))))
    (pss_one (ps_ret (pe_callTy call_tuple_of (by rfl) T.z_tuple (by decide +kernel) (pa_cons (pv 4) pa_nil)))))))), ?_⟩
  refine ⟨_, rfl, _, rfl, _, _, rfl, rfl, d, _, rfl, hD, by omega, fun n H1 g1 n0 n1 => ?_⟩
  have n46 : n ≤ 46 := by
    have : n < most + 1 := n1
    omega
  refine ⟨_, rfl, d, 10, rfl, g1.dr, by decide, fun tw H2 g2 _ _ => ?_⟩
  have g12 := g1.trans g2
  refine ⟨Nat.zero_le _, fun p hp => ?_⟩
  have hpd := new_ne g2.dr hp
  have hp0 := g12.free hp
  obtain ⟨H5, e5, s5, k5⟩ := newH hp (.lst [])
  rw [e5]
  have g15 := g12.trans (.same g2.dr s5)
  refine ⟨_, rfl, n, rfl, by omega, by omega, for_range (lo := 0) (n := n.toNat) (fun (j : Nat) (σ : L2.St) (H' : Hp) => ∃ (xs : List V) (A' : Ar) (y5 y6 : Option V), σ = [some (.ref d), some (.int most), some (.int n), some (.int tw), some (.ref p), y5, y6] ∧ Go d H H' ∧ H' p = some (.lst xs) ∧ Each (PosIn H') A' xs ∧ A'.length = j ∧ ∀ os ∈ A', PosG n os) ?_ ?_ ?_⟩
  · exact ⟨[], [], _, _, rfl, g15, k5, .nil, rfl, fun os h => nomatch h⟩
  · rintro j σ H7 hj ⟨xs, A', y5, y6, rfl, g7, e7, hxs, hA, hG⟩
    have hn0 : 0 < n := by omega
    generalize hk : (0 : Int) + (j : Int) = k
    have hk0 : 0 ≤ k ∧ k < n := by omega
    refine ⟨_, rfl, _, rfl, Nat.le_of_ble_eq_true rfl, fun l1 hl1 => ?_⟩
    obtain ⟨H8, e8, s8, k8⟩ := newH hl1 (.lst [.int 0, .int 1, .int 1, .int 2, .int 2, .int 3])
    rw [e8]
    have nl1 := new_ne g7.dr hl1
    have g8 := Go.same g7.dr s8
    refine ⟨d, l1, n, 3, [0, 1, 1, 2, 2, 3], rfl, g8.dr, hn0, n46, by decide, nl1, k8, by decide, by decide, by decide, fun v os H9 g9 hv hol hoG => ?_⟩
    have g79 := g8.trans g9
    -- what the options are like
    have mid : ∀ {Y : Int} {H' : Hp} {v' : V} {os' : Pos'}, Go d H7 H' → PosIn H' os' v' → (os'.length : Int) ≤ Y → (∀ o ∈ os', OptG n o) → ∃ (v : V) (os : Pos'), [some (V.ref d), some (.int most), some (.int n), some (.int tw), some (.ref p), some (.int k), some v'] = [some (V.ref d), some (.int most), some (.int n), some (.int tw), some (.ref p), some (.int k), some v] ∧ Go d H7 H' ∧ PosIn H' os v ∧ (os.length : Int) ≤ Y ∧ ∀ o ∈ os, OptG n o := fun a b c e => ⟨_, _, rfl, a, b, c, e⟩
    refine ⟨fun σ H' => ∃ (v : V) (os : Pos'), σ = [some (.ref d), some (.int most), some (.int n), some (.int tw), some (.ref p), some (.int k), some v] ∧ Go d H7 H' ∧ PosIn H' os v ∧ (os.length : Int) ≤ 3 ∧ ∀ o ∈ os, OptG n o, ?_, ?_⟩
    · refine ⟨_, rfl, rfl, _, rfl, ?_⟩
      refine ite2 (fun z => ?_) (fun z => mid g79 hv hol hoG)
      obtain ⟨b0, ys, rfl, e0, hys⟩ := hv
      obtain ⟨a, ha⟩ : ∃ a : Int, (if n - 1 < k + 1 then n - 1 else k + 1) = a := ⟨_, rfl⟩
      obtain ⟨b, hb⟩ : ∃ b : Int, (if n - 1 < k + 2 then n - 1 else k + 2) = b := ⟨_, rfl⟩
      have ha2 : 0 ≤ a ∧ a < n := by split at ha <;> omega
      have hb2 : 0 ≤ b ∧ b < n := by split at hb <;> omega
      refine ⟨_, rfl, _, _, rfl, rfl, _, rfl, _, _, rfl, rfl, _, _, rfl, ?_⟩
      refine ⟨_, rfl, _, _, rfl, rfl, _, rfl, _, _, rfl, rfl, _, _, rfl, ?_⟩
      refine ⟨Nat.le_of_ble_eq_true rfl, fun l hl => ?_⟩
      rw [ha, hb] at *
      obtain ⟨Ha, ea, sa, ka⟩ := newH hl (.lst [V.int a, V.int b])
      rw [ea]
      refine ⟨l, [a, b], rfl, sqd ka, Nat.le_of_ble_eq_true rfl, fun pf fs Hb sb _ kb hnd hm hfl => ?_⟩
      refine ⟨pf, fs, rfl, sqd kb, by have : fs.length ≤ 2 := hfl; omega, fun ns q1 hperm hpw hq1 => ?_⟩
      have og := opt_two ha2 hb2 hnd hm hfl hperm hpw
      obtain ⟨Hc, ec, sc, kc⟩ := newH hq1 (.lst (ns.map V.int))
      rw [ec]
      refine ⟨q1, _, rfl, .inl ⟨sqd kc, fun t2 ht2 => ?_⟩⟩
      obtain ⟨Hd, ed, sd, kd⟩ := newH ht2 (.tup (ns.map V.int))
      rw [ed]
      refine ⟨Nat.le_of_ble_eq_true rfl, fun t3 ht3 => ?_⟩
      obtain ⟨He, ee, se, ke⟩ := newH ht3 (.tup [V.ref t2])
      rw [ee]
      have s9e := (((sa.trans sb).trans sc).trans sd).trans se
      refine ⟨_, rfl, _, rfl, _, rfl, ?_⟩
      refine slA_of (s9e _ _ e0) fun ps Hf sf ef => ?_
      rw [cut_mid] at ef
      refine catA_of (sf _ _ ke) ef (by have := hys.1; rw [List.length_take, List.length_singleton]; omega) fun pc Hg sg eg => ?_
      have s9g := s9e.trans (sf.trans sg)
      refine mid (os' := [ns] ++ (os.drop 1).take 1) (g79.trans (.same g9.dr s9g)) ⟨pc, _, rfl, eg, ?_⟩ (by rw [List.length_append, List.length_singleton, List.length_take]; omega) fun o ho => ?_
      · refine (Each.cons ⟨t2, rfl, ((se.trans sf).trans sg) _ _ kd⟩ .nil).app (((hys.drop 1).take 1).mono fun o x => OptIn.tp (Tp.same s9g))
      · rcases List.mem_append.mp ho with ho | ho
        · rw [List.mem_singleton.mp ho]
          exact og
        · exact hoG o (List.mem_of_mem_drop (List.mem_of_mem_take ho))
    rintro σ H10 ⟨v, os, rfl, g10, hv, hol, hoG⟩
    refine ⟨fun σ H' => ∃ (v : V) (os : Pos'), σ = [some (.ref d), some (.int most), some (.int n), some (.int tw), some (.ref p), some (.int k), some v] ∧ Go d H7 H' ∧ PosIn H' os v ∧ (os.length : Int) ≤ 3 ∧ ∀ o ∈ os, OptG n o, ?_, ?_⟩
    · refine ⟨_, rfl, rfl, _, rfl, ?_⟩
      refine ite2 (fun z => ?_) (fun z => mid g10 hv hol hoG)
      obtain ⟨b0, ys, rfl, e0, hys⟩ := hv
      obtain ⟨a, ha⟩ : ∃ a : Int, (if 0 > k - 1 then 0 else k - 1) = a := ⟨_, rfl⟩
      obtain ⟨b, hb⟩ : ∃ b : Int, (if 0 > k - 2 then 0 else k - 2) = b := ⟨_, rfl⟩
      have ha2 : 0 ≤ a ∧ a < n := by split at ha <;> omega
      have hb2 : 0 ≤ b ∧ b < n := by split at hb <;> omega
      refine ⟨_, rfl, _, _, rfl, rfl, _, _, rfl, ?_⟩
      refine ⟨_, rfl, _, _, rfl, rfl, _, _, rfl, ?_⟩
      refine ⟨Nat.le_of_ble_eq_true rfl, fun l hl => ?_⟩
      rw [ha, hb] at *
      obtain ⟨Ha, ea, sa, ka⟩ := newH hl (.lst [V.int a, V.int b])
      rw [ea]
      refine ⟨l, [a, b], rfl, sqd ka, Nat.le_of_ble_eq_true rfl, fun pf fs Hb sb _ kb hnd hm hfl => ?_⟩
      refine ⟨pf, fs, rfl, sqd kb, by have : fs.length ≤ 2 := hfl; omega, fun ns q1 hperm hpw hq1 => ?_⟩
      have og := opt_two ha2 hb2 hnd hm hfl hperm hpw
      obtain ⟨Hc, ec, sc, kc⟩ := newH hq1 (.lst (ns.map V.int))
      rw [ec]
      refine ⟨q1, _, rfl, .inl ⟨sqd kc, fun t2 ht2 => ?_⟩⟩
      obtain ⟨Hd, ed, sd, kd⟩ := newH ht2 (.tup (ns.map V.int))
      rw [ed]
      refine ⟨Nat.le_of_ble_eq_true rfl, fun t3 ht3 => ?_⟩
      obtain ⟨He, ee, se, ke⟩ := newH ht3 (.tup [V.ref t2])
      rw [ee]
      have s9e := (((sa.trans sb).trans sc).trans sd).trans se
      refine ⟨_, rfl, _, rfl, ?_⟩
      unfold tNoPart
      refine slA_of (s9e _ _ e0) fun ps Hf sf ef => ?_
      rw [show cutV ys (some 1) none = ys.drop 1 from cut_from (k := 1)] at ef
      refine catA_of (sf _ _ ke) ef (by have := hys.1; rw [List.length_drop, List.length_singleton]; omega) fun pc Hg sg eg => ?_
      have s9g := s9e.trans (sf.trans sg)
      refine mid (os' := [ns] ++ os.drop 1) (g10.trans (.same g10.dr s9g)) ⟨pc, _, rfl, eg, ?_⟩ (by rw [List.length_append, List.length_singleton, List.length_drop]; omega) fun o ho => ?_
      · refine (Each.cons ⟨t2, rfl, ((se.trans sf).trans sg) _ _ kd⟩ .nil).app ((hys.drop 1).mono fun o x => OptIn.tp (Tp.same s9g))
      · rcases List.mem_append.mp ho with ho | ho
        · rw [List.mem_singleton.mp ho]
          exact og
        · exact hoG o (List.mem_of_mem_drop ho)
    rintro σ H11 ⟨v, os, rfl, g11, hv, hol, hoG⟩
    refine ⟨fun σ H' => ∃ (v : V) (os : Pos'), σ = [some (.ref d), some (.int most), some (.int n), some (.int tw), some (.ref p), some (.int k), some v] ∧ Go d H7 H' ∧ PosIn H' os v ∧ (os.length : Int) ≤ 12 ∧ ∀ o ∈ os, OptG n o, ?_, ?_⟩
    · refine ⟨_, rfl, rfl, _, rfl, ?_⟩
      refine ite2 (fun z => ?_) (fun z => mid g11 hv (by omega) hoG)
      refine ⟨_, rfl, rfl, _, rfl, ?_⟩
      refine ite2 (fun z => ?_) (fun z => mid g11 hv (by omega) hoG)
      obtain ⟨b0, ys, rfl, e0, hys⟩ := hv
      refine ⟨_, rfl, _, rfl, _, rfl, Nat.le_of_ble_eq_true rfl, fun l hl => ?_⟩
      obtain ⟨Ha, ea, sa, ka⟩ := newH hl (.lst [V.int 4, V.int 5, V.int 6])
      rw [ea]
      have ga := Go.same g11.dr sa
      refine ⟨d, l, n, 6, [4, 5, 6], rfl, ga.dr, hn0, n46, by decide, new_ne g11.dr hl, ka, by decide, by decide, by decide, fun v2 os2 Hb gb hv2 hol2 hoG2 => ?_⟩
      obtain ⟨b2, ys2, rfl, e2, hys2⟩ := hv2
      have gab := ga.trans gb
      have e0b := gab.tp g11.dr _ _ e0
      have hyl := hys.1
      have hyl2 := hys2.1
      refine catA_of e0b e2 (by omega) fun pc Hc sc ec => ?_
      have gc := gab.trans (.same gb.dr sc)
      refine ⟨_, rfl, d, 2, rfl, gc.dr, by decide, fun u Hd gd u0 u1 => ⟨_, rfl, _, rfl, _, _, rfl, rfl, ⟨by omega, by omega, by omega, by omega, by omega⟩, fun q1 hq1 => ?_⟩⟩
      rw [rgA_ints]
      have og := rgS_good u0 u1 hn0 n46
      generalize (List.range (n - (-u)).toNat).map (fun i : Nat => (-u) + (i : Int)) = o1 at og ⊢
      obtain ⟨He, ee, se, ke⟩ := newH hq1 (.tup (o1.map V.int))
      rw [ee]
      refine ⟨Nat.le_of_ble_eq_true rfl, fun t3 ht3 => ?_⟩
      obtain ⟨Hf, ef, sf, kf⟩ := newH ht3 (.tup [V.ref q1])
      rw [ef]
      have ecf := (se.trans sf) _ _ (gd.tp gc.dr _ _ ec)
      refine catA_of ecf kf (by rw [List.length_append, List.length_singleton]; omega) fun pg Hg sg eg => ?_
      have gdg := gd.trans (.same gd.dr ((se.trans sf).trans sg))
      refine mid (os' := os ++ os2 ++ [o1]) (g11.trans (gc.trans gdg)) ⟨pg, _, rfl, eg, ?_⟩ (by rw [List.length_append, List.length_append, List.length_singleton]; omega) fun o ho => ?_
      · refine ((hys.mono fun o x => OptIn.tp ((gc.trans gdg).tp g11.dr)).app (hys2.mono fun o x => OptIn.tp ((Tp.same sc).trans (gdg.tp gc.dr)))).app (.cons ⟨q1, rfl, (sf.trans sg) _ _ ke⟩ .nil)
      · rcases List.mem_append.mp ho with ho | ho
        · rcases List.mem_append.mp ho with ho | ho
          · exact hoG o ho
          · exact hoG2 o ho
        · rw [List.mem_singleton.mp ho]
          exact og
    rintro σ H12 ⟨v, os, rfl, g12', hv, hol, hoG⟩
    have e12p := g12'.fr p _ hpd e7
    have hxl := hxs.1
    refine ⟨_, rfl, .inl ⟨rfl, _, sqd e12p⟩, _, rfl, p, xs, _, rfl, rfl, e12p, big' (by omega), ?_⟩
    have tp : Tp H7 (upd H12 p (.lst (xs ++ [v]))) := tp_put (g12'.tp g7.dr) e12p
    refine ⟨xs ++ [v], A' ++ [os], _, _, rfl, (g7.trans g12').put2 hp0 hpd, upd_same, (hxs.mono fun o x => PosIn.tp tp).snoc (hv.tp (tp_put Tp.refl e12p)), by rw [List.length_append, hA]; rfl, ?_⟩
    intro o ho
    rcases List.mem_append.mp ho with ho | ho
    · exact hG o ho
    · rw [List.mem_singleton.mp ho]
      exact ⟨by omega, hoG⟩
  · rintro σ H7 ⟨xs, A', y5, y6, rfl, g7, e7, hxs, hA, hG⟩
    refine ⟨_, rfl, p, xs, rfl, .inl ⟨sqd e7, fun t ht => ?_⟩⟩
    have st := same_new ht (.tup xs)
    refine q _ A' _ (g7.trans (.same g7.dr st)) ⟨t, xs, rfl, upd_same, hxs.mono fun os x => PosIn.tp (.same st)⟩ ⟨by omega, fun os h => ?_⟩
    rw [show (A'.length : Int) = n by omega]
    exact hG os h
end
end NL

set_option maxHeartbeats 4000000
namespace NL
open PySem PySem.Spec PyProof.Rows L2
theorem ArG.inA {A : Ar} (h : ArG A) : InA A A.length := fun os hos o ho p hp => ((h.2 os hos).2 o ho).mem p hp
theorem pi_tupK {X : Cx} {K : PySem.W.Frag} {tg l : Expr} {tl : TE} (h : X.K = K) (e : PE X l tl) : PI X tg l (iTup K tl) := by
  subst h
  exact pi_tup e
theorem cr_allK {X : Cx} {K : PySem.W.Frag} (h : X.K = K) (hc : X.calm = true) : CallR X (.builtin "all") (rAll K) := by
  subst h
  exact cr_all hc
section
variable {P : Program} {w : World} {K : PySem.W.Frag} {mg : Str → Option Value} {base : Heap}
/-! ### some of the positions -/
def spSomeN : Sp := fun vs H Q _ => ∃ (d : Addr) (n sh : Int), vs = [.ref d, .int n, .int sh] ∧ Dr H d ∧ 0 ≤ n ∧ n ≤ 1000 ∧ ∀ (p : Addr) (o : List Int) (H' : Hp), Go d H H' → H' p = some (.tup (o.map V.int)) → (∀ x ∈ o, 0 ≤ x ∧ x < n) → o.length ≤ n.toNat → Q (.ref p) H'
theorem ok_law_some (T : Txt K mg) : FnOk P w K mg base CX0 2 T.a_law_some T.d_law_some P_law_some spSomeN := by
  have G_law_take := ok_law_take (P := P) (w := w) (base := base) T
  refine T.F_law_some.ok sc_law_some (fun vs H Q E h => ?_) (fun cdv A outer s H vs Q E hr h => ?_)
  · obtain ⟨d, n, sh, rfl, _⟩ := h
    rfl
  obtain ⟨d, n, sh, rfl, hD, n0, n1, q⟩ := h
  refine ⟨_, (pss_one (ps_ret (pe_callTy call_tuple_of (by rfl) T.z_tuple (by decide +kernel) (pa_cons (pe_lc (own := [("k", 3)]) (g := (gName 3)) (tt := _) rfl sc_law_some.nd (pi_range1 (by rfl) T.z_range (pa_cons (pv 1) pa_nil)) (blkOk_by (N := N_law_some) (sc := defScope s_law_some) (by decide +kernel)) (fun _ _ _ _ _ => (pg_name (i := 3) sc_law_some.nd rfl (Or.inl rfl))) (fun _ _ _ _ _ => (pts_one (pt_cmpR op_lt (pe_call G_law_take (hr.mono (by omega)) (by rfl) T.m_law_take T.F_law_take.kp T.b_law_take .nil pass0 (pa_cons (pv 0) (pa_cons pe_int pa_nil))) (pv 2) (nomark _)))) (fun _ _ _ _ _ => (pv 3))) pa_nil)))), ?_⟩
  refine ⟨_, rfl, n, rfl, by omega, by omega, fun D hD' => ?_⟩
  have nDd := new_ne hD hD'
  have s1 := same_new hD' (.lst [])
  refine lc_range (lo := 0) (n := n.toNat) (fun (i : Nat) (H' : Hp) => ∃ o : List Int, Go d H H' ∧ H' D = some (.lst (o.map V.int)) ∧ o.length ≤ i ∧ ∀ x ∈ o, 0 ≤ x ∧ x < n) ?_ ?_ ?_
  · exact ⟨[], .same hD s1, upd_same, Nat.le_refl 0, fun x hx => nomatch hx⟩
  · rintro i H' hi ⟨o, g2, e2, hlen, hin⟩
    refine ⟨rfl, ?_⟩
    refine ⟨_, rfl, d, 8, rfl, g2.dr, by decide, fun u H2 g3 _ _ => ⟨_, rfl, _, _, rfl, rfl, _, rfl, ?_⟩⟩
    have e3 := g3.fr D _ nDd e2
    refine ite2 (fun z => ?_) (fun z => ⟨o, g2.trans g3, e3, by omega, hin⟩)
    exact ⟨_, rfl, _, e3, big' (by rw [List.length_map]; omega), o ++ [0 + (i : Int)], (g2.trans g3).put2 hD' nDd, by rw [upd_same, List.map_append]; rfl, by rw [List.length_append]; exact Nat.add_le_add_right hlen 1, fun x hx => (List.mem_append.mp hx).elim (hin x) fun h => by rw [List.mem_singleton.mp h]; omega⟩
  · rintro H2 ⟨o, g2, e2, hlen, hin⟩
    refine ⟨D, _, rfl, .inl ⟨sqd e2, fun t ht => ?_⟩⟩
    exact q t o _ (g2.trans (Go.new g2.dr ht)) upd_same hin hlen
/-! ### two answers that are the same -/
def Alk : Nat → Hp → V → V → Prop
  | 0, _, _, _ => False
  | n + 1, H, u, v => (∃ s, u = .str s ∧ v = .str s) ∨ (∃ i, u = .int i ∧ v = .int i) ∨ ∃ a b xs ys, u = .ref a ∧ v = .ref b ∧ H a = some (.tup xs) ∧ H b = some (.tup ys) ∧ xs.length = ys.length ∧ ys.length ≤ 1000000 ∧
      ∀ (k : Nat) x y, xs[k]? = some x → ys[k]? = some y → Alk n H x y
theorem Alk.ints {H : Hp} {a b : Addr} {l : List Int} (ha : H a = some (.tup (l.map V.int))) (hb : H b = some (.tup (l.map V.int))) (hl : l.length ≤ 1000000) : Alk 2 H (.ref a) (.ref b) := by
  refine .inr (.inr ⟨a, b, _, _, rfl, rfl, ha, hb, rfl, by rw [List.length_map]; exact hl, fun k x y hx hy => ?_⟩)
  rw [hx] at hy
  cases hy
  rw [List.getElem?_map] at hx
  obtain ⟨i, _, rfl⟩ := Option.map_eq_some_iff.mp hx
  exact .inr (.inl ⟨i, rfl, rfl⟩)
def spSame (n : Nat) : Sp := fun vs H Q _ => ∃ u v : V, vs = [u, v] ∧ Alk n H u v ∧ Q (.bl true) H
/-! ### the indexes of the safe options -/
def sfI (os : Pos') (M : Mk') : List Int := ((List.range os.length).filter fun i => ((os[i]?).getD []).all M).map fun i : Nat => (i : Int)
def sfT (os : Pos') (M : Mk') (j : Nat) : List Int := ((List.range j).filter fun i => ((os[i]?).getD []).all M).map fun i : Nat => (i : Int)
theorem sfT_len (os : Pos') (M : Mk') (j : Nat) : (sfT os M j).length ≤ j := by
  unfold sfT
  rw [List.length_map]
  have := List.length_filter_le (fun i => ((os[i]?).getD []).all M) (List.range j)
  rw [List.length_range] at this
  exact this
theorem sfT_s {os : Pos'} {M : Mk'} {j : Nat} {o : Opt} (h : os[j]? = some o) : sfT os M (j + 1) = sfT os M j ++ (if o.all M = true then [(j : Int)] else []) := by
  unfold sfT
  rw [List.range_succ, List.filter_append, List.map_append]
  congr 1
  rw [List.filter_cons, h]
  show List.map _ (if o.all M = true then [j] else []) = _
  cases o.all M <;> rfl
theorem sfT_full (os : Pos') (M : Mk') : sfT os M os.length = sfI os M := rfl
theorem sfI_mem {os : Pos'} {M : Mk'} {g : Int} (h : g ∈ sfI os M) : ∃ (i : Nat) (o : Opt), g = (i : Int) ∧ os[i]? = some o ∧ o.all M = true := by
  unfold sfI at h
  obtain ⟨i, hi, rfl⟩ := List.mem_map.mp h
  obtain ⟨h1, h2⟩ := List.mem_filter.mp hi
  have hl := List.mem_range.mp h1
  have ho := List.getElem?_eq_getElem hl
  rw [ho] at h2
  exact ⟨i, _, rfl, ho, h2⟩
theorem sfI_ne {os : Pos'} {M : Mk'} (h : frcM 0 os M = true) : sfI os M ≠ [] := by
  unfold frcM at h
  rw [if_pos rfl] at h
  obtain ⟨o, ho, hall⟩ := List.any_eq_true.mp h
  obtain ⟨i, hi⟩ := List.getElem?_of_mem ho
  have hl := (List.getElem?_eq_some_iff.mp hi).1
  intro e
  unfold sfI at e
  have : i ∈ (List.range os.length).filter fun i => ((os[i]?).getD []).all M := List.mem_filter.mpr ⟨List.mem_range.mpr hl, by rw [hi]; exact hall⟩
  rw [List.map_eq_nil_iff.mp e] at this
  cases this
def spSafe (K : PySem.W.Frag) : Sp := fun vs H Q _ => ∃ (v : V) (b : Addr) (os : Pos') (n : Nat) (M : Mk'), vs = [v, .ref b] ∧ PosIn H os v ∧ os.length ≤ 1000 ∧ (∀ o ∈ os, o.length ≤ 1000 ∧ ∀ p ∈ o, -1 ≤ p ∧ p < (n : Int)) ∧ H b = some (.lst ((bsO n M).map V.bl)) ∧
  ∀ (p : Addr) H', Same H H' → H' p = some (.tup ((sfI os M).map V.int)) → Q (.ref p) H'
/-! ### has_option -/
end
end NL

set_option maxHeartbeats 4000000
namespace NL
open PySem PySem.Spec PyProof.Rows L2
/-! ### options at places (out of KD_pure) -/
def OptAt (A : Ar) (k i : Nat) (o : Opt) : Prop := ∃ os, A[k]? = some os ∧ os[i]? = some o
theorem OptAt.good {A : Ar} (hG : ArG A) {k i : Nat} {o : Opt} (h : OptAt A k i o) : OptG A.length o ∧ k < A.length := by
  obtain ⟨os, h1, h2⟩ := h
  exact ⟨(hG.2 os (List.mem_of_getElem? h1)).2 o (List.mem_of_getElem? h2), (List.getElem?_eq_some_iff.mp h1).1⟩
theorem OptAt.uniq {A : Ar} {k i : Nat} {o o' : Opt} (h : OptAt A k i o) (h' : OptAt A k i o') : o = o' := by
  obtain ⟨os, h1, h2⟩ := h
  obtain ⟨os', h3, h4⟩ := h'
  rw [h1] at h3
  cases h3
  rw [h2] at h4
  exact Option.some.inj h4
abbrev Tl := Int → Option Int
theorem nd_len (lo : Int) : ∀ (n : Nat) (l : List Int), l.Nodup → (∀ x ∈ l, lo ≤ x ∧ x < lo + n) → l.length ≤ n
  | 0, l, _, h => by
    cases l with
    | nil => exact Nat.le_refl 0
    | cons a r =>
      have := h a (List.mem_cons_self ..)
      omega
  | n + 1, l, hd, h => by
    have h2 := nd_len lo n (l.erase (lo + n)) (hd.erase _) fun x hx => by
      have h3 := (List.Nodup.mem_erase_iff hd).mp hx
      have := h x h3.2
      have h4 := h3.1
      omega
    have := List.length_erase (a := lo + (n : Int)) (l := l)
    split at this <;> omega
theorem nd_lenN (n : Nat) (l : List Int) (hn : l.Nodup) (h : ∀ x ∈ l, 0 ≤ x ∧ x < (n : Int)) : l.length ≤ n := nd_len 0 n l hn fun x hx => by have := h x hx; omega
theorem nat_of {x : Int} {n : Nat} (h0 : 0 ≤ x) (h1 : x < (n : Int)) : ∃ k : Nat, x = (k : Int) ∧ k < n := ⟨x.toNat, by omega, by omega⟩
end NL

set_option maxHeartbeats 4000000
namespace NL
open PySem PySem.Spec PyProof.Rows L2
/-! ### beats: pairs of a position and its positions on end away from home -/
structure Vld (hm : List Int) (n k : Nat) (p a : Int) : Prop where
  p0 : 0 ≤ p
  p1 : p < (n : Int)
  a0 : 0 ≤ a
  a1 : a ≤ (k : Int)
  ha : p ∈ hm ↔ a = 0
def nxA (hm : List Int) (s a : Int) : Int := if s ∈ hm then 0 else a + 1
def Pst (A : Ar) (hm : List Int) (k : Nat) (Z : Int → Int → Prop) : Prop := ∀ p a, Z p a → Vld hm A.length k p a ∧ ∃ i o, OptAt A p.toNat i o ∧ ∀ s ∈ o, s ≠ -1 ∧ Z s (nxA hm s a)
/-- the beat k is kept from here -/
def Gk (A : Ar) (hm : List Int) (k : Nat) (p a : Int) : Prop := ∃ Z, Pst A hm k Z ∧ Z p a
theorem gk_pst (A : Ar) (hm : List Int) (k : Nat) : Pst A hm k (Gk A hm k) := by
  rintro p a ⟨Z, hZ, hp⟩
  obtain ⟨h1, i, o, h2, h3⟩ := hZ p a hp
  exact ⟨h1, i, o, h2, fun s hs => ⟨(h3 s hs).1, Z, hZ, (h3 s hs).2⟩⟩
theorem gk_mono {A : Ar} {hm : List Int} {k k' : Nat} (h : k ≤ k') {p a : Int} (hp : Gk A hm k p a) : Gk A hm k' p a := by
  obtain ⟨Z, hZ, hp⟩ := hp
  refine ⟨Z, fun q b hq => ?_, hp⟩
  obtain ⟨h1, h2⟩ := hZ q b hq
  exact ⟨⟨h1.p0, h1.p1, h1.a0, by have := h1.a1; omega, h1.ha⟩, h2⟩
/-- rounds of coming to S with no other home position on the way -/
structure Rds (A : Ar) (hm : List Int) (S : Int → Prop) (f : Nat → Mk') : Prop where
  out : ∀ k, f k (-1) = false
  st : ∀ p : Int, 0 ≤ p → (f 0 p = true ↔ S p)
  hom : ∀ k (p : Int), p ∈ hm → 0 ≤ p → f k p = f 0 p
  nx : ∀ (k i : Nat), i < A.length → (i : Int) ∉ hm → (f (k + 1) (i : Int) = true ↔ f k (i : Int) = true ∨ ∃ j o, OptAt A i j o ∧ ∀ s ∈ o, f k s = true)
  up : ∀ k p, f k p = true → f (k + 1) p = true
section
variable {A : Ar} {hm : List Int} {S : Int → Prop} {f : Nat → Mk'}
theorem Rds.first (R : Rds A hm S f) {p : Int} : ∀ k : Nat, f k p = true → ∃ r, r ≤ k ∧ f r p = true ∧ ∀ j, j < r → f j p = false
  | 0, h => ⟨0, Nat.le_refl 0, h, fun j hj => absurd hj (Nat.not_lt_zero j)⟩
  | k + 1, h => by
    cases hk : f k p with
    | true =>
      obtain ⟨r, h1, h2⟩ := R.first k hk
      exact ⟨r, by omega, h2⟩
    | false =>
      refine ⟨k + 1, Nat.le_refl _, h, fun j hj => ?_⟩
      cases hj' : f j p with
      | false => rfl
      | true =>
        have := up_le (fun k p e => R.up k p e) (show j ≤ k by omega) hj'
        rw [hk] at this
        cases this
/-- what S keeps, if each of its positions can come to S again in time -/
theorem pst_of (hG : ArG A) (R : Rds A hm S f) (k : Nat) (hS : ∀ p, S p → p ∈ hm ∧ 0 ≤ p ∧ p < (A.length : Int) ∧ ∃ i o, OptAt A p.toNat i o ∧ ∀ s ∈ o, f k s = true) : Pst A hm k fun p a => (S p ∧ a = 0) ∨ (p ∉ hm ∧ 0 ≤ p ∧ p < (A.length : Int) ∧ 1 ≤ a ∧ ∃ r : Nat, 1 ≤ r ∧ f r p = true ∧ (r : Int) + a - 1 ≤ (k : Int)) := by
  rintro p a (⟨hp, rfl⟩ | ⟨hp, p0, p1, ha, r, hr1, hr, hle⟩)
  · obtain ⟨h1, h2, h3, i, o, ho, hall⟩ := hS p hp
    refine ⟨⟨h2, h3, Int.le_refl 0, by omega, ⟨fun _ => rfl, fun _ => h1⟩⟩, i, o, ho, fun s hs => ?_⟩
    have hf := hall s hs
    have hne : s ≠ -1 := fun e => by rw [e, R.out] at hf; cases hf
    have hm2 := (ho.good hG).1.mem s hs
    refine ⟨hne, ?_⟩
    unfold nxA
    by_cases hsm : s ∈ hm
    · rw [if_pos hsm]
      rw [R.hom k s hsm (by omega)] at hf
      exact .inl ⟨(R.st s (by omega)).mp hf, rfl⟩
    · rw [if_neg hsm]
      obtain ⟨r, h4, h5, _⟩ := R.first k hf
      refine .inr ⟨hsm, by omega, hm2.2, by omega, r, ?_, h5, by omega⟩
      rcases Nat.eq_zero_or_pos r with e | e
      · subst e
        exact absurd (hS s ((R.st s (by omega)).mp h5)).1 hsm
      · exact e
  · obtain ⟨r0, h4, h5, h6⟩ := R.first r hr
    have hr0 : 1 ≤ r0 := by
      rcases Nat.eq_zero_or_pos r0 with e | e
      · subst e
        exact absurd (hS p ((R.st p p0).mp h5)).1 hp
      · exact e
    obtain ⟨k0, rfl⟩ : ∃ k0, r0 = k0 + 1 := ⟨r0 - 1, by omega⟩
    obtain ⟨i, rfl, hi⟩ := nat_of p0 p1
    refine ⟨⟨p0, p1, by omega, by omega, ⟨fun h => absurd h hp, fun h => by omega⟩⟩, ?_⟩
    rcases (R.nx k0 i hi hp).mp h5 with h | ⟨j, o, ho, hall⟩
    · rw [h6 k0 (by omega)] at h
      cases h
    · refine ⟨j, o, by rw [Int.toNat_natCast]; exact ho, fun s hs => ?_⟩
      have hf := hall s hs
      have hne : s ≠ -1 := fun e => by rw [e, R.out] at hf; cases hf
      have hm2 := (ho.good hG).1.mem s hs
      refine ⟨hne, ?_⟩
      unfold nxA
      by_cases hsm : s ∈ hm
      · rw [if_pos hsm]
        rw [R.hom k0 s hsm (by omega)] at hf
        exact .inl ⟨(R.st s (by omega)).mp hf, rfl⟩
      · rw [if_neg hsm]
        refine .inr ⟨hsm, by omega, hm2.2, by omega, k0, ?_, hf, by omega⟩
        rcases Nat.eq_zero_or_pos k0 with e | e
        · subst e
          exact absurd (hS s ((R.st s (by omega)).mp hf)).1 hsm
        · exact e
/-- what is kept reaches S, if S has all home positions from which it is kept -/
theorem pst_reach (hG : ArG A) (R : Rds A hm S f) {k : Nat} {Z : Int → Int → Prop} (hZ : Pst A hm k Z) (hS : ∀ p, p ∈ hm → Z p 0 → S p) : ∀ (m : Nat) (p a : Int), Z p a → p ∉ hm → (k : Int) - a ≤ (m : Int) → f (m + 1) p = true
  | m, p, a, hp, hpm, hm' => by
    obtain ⟨h1, i, o, ho, hall⟩ := hZ p a hp
    obtain ⟨j, rfl, hj⟩ := nat_of h1.p0 h1.p1
    rw [Int.toNat_natCast] at ho
    refine (R.nx m j hj hpm).mpr (.inr ⟨i, o, ho, fun s hs => ?_⟩)
    obtain ⟨h2, h3⟩ := hall s hs
    have hm2 := (ho.good hG).1.mem s hs
    unfold nxA at h3
    by_cases hsm : s ∈ hm
    · rw [if_pos hsm] at h3
      exact up_le (fun k p e => R.up k p e) (Nat.zero_le m) ((R.st s (by omega)).mpr (hS s hsm h3))
    · rw [if_neg hsm] at h3
      have h4 := (hZ s _ h3).1.a1
      match m, hm' with
      | 0, hm' => omega
      | m + 1, hm' => exact pst_reach hG R hZ hS m s (a + 1) h3 hsm (by omega)
/-- a home position from which the beat is kept can come to S in k steps -/
theorem pst_home (hG : ArG A) (R : Rds A hm S f) {k : Nat} {Z : Int → Int → Prop} (hZ : Pst A hm k Z) (hS : ∀ p, p ∈ hm → Z p 0 → S p) {p : Int} (hp : Z p 0) : ∃ i o, OptAt A p.toNat i o ∧ ∀ s ∈ o, f k s = true := by
  obtain ⟨h1, i, o, ho, hall⟩ := hZ p 0 hp
  refine ⟨i, o, ho, fun s hs => ?_⟩
  obtain ⟨h2, h3⟩ := hall s hs
  have hm2 := (ho.good hG).1.mem s hs
  unfold nxA at h3
  by_cases hsm : s ∈ hm
  · rw [if_pos hsm] at h3
    exact up_le (fun k p e => R.up k p e) (Nat.zero_le k) ((R.st s (by omega)).mpr (hS s hsm h3))
  · rw [if_neg hsm] at h3
    have h4 := (hZ s _ h3).1.a1
    obtain ⟨k0, rfl⟩ : ∃ k0, k = k0 + 1 := ⟨k - 1, by omega⟩
    exact pst_reach hG R hZ hS k0 s (0 + 1) h3 hsm (by omega)
/-- where S is all that is kept at home: from which positions the beat is kept -/
theorem gk_is (hG : ArG A) (R : Rds A hm S f) {k : Nat} (h1 : ∀ p, p ∈ hm → Gk A hm k p 0 → S p) (hS : ∀ p, S p → p ∈ hm ∧ 0 ≤ p ∧ p < (A.length : Int) ∧ ∃ i o, OptAt A p.toNat i o ∧ ∀ s ∈ o, f k s = true) (p : Int) (p0 : 0 ≤ p) (p1 : p < (A.length : Int)) : Gk A hm k p (if p ∈ hm then 0 else 1) ↔ f k p = true := by
  by_cases hp : p ∈ hm
  · rw [if_pos hp, R.hom k p hp p0]
    exact ⟨fun h => (R.st p p0).mpr (h1 p hp h), fun h => ⟨_, pst_of hG R k hS, .inl ⟨(R.st p p0).mp h, rfl⟩⟩⟩
  · rw [if_neg hp]
    constructor
    · intro h
      have h4 := (gk_pst A hm k p 1 h).1.a1
      obtain ⟨k0, rfl⟩ : ∃ k0, k = k0 + 1 := ⟨k - 1, by omega⟩
      exact pst_reach hG R (gk_pst A hm _) h1 k0 p 1 h hp (by omega)
    · intro h
      obtain ⟨r, h4, h5, _⟩ := R.first k h
      refine ⟨_, pst_of hG R k hS, .inr ⟨hp, p0, p1, Int.le_refl 1, r, ?_, h5, by omega⟩⟩
      rcases Nat.eq_zero_or_pos r with e | e
      · subst e
        exact absurd (hS p ((R.st p p0).mp h5)).1 hp
      · exact e
end
end NL

set_option maxHeartbeats 4000000
namespace NL
open PySem PySem.Spec PyProof.Rows L2
/-! ### the chain of sets that are kept -/
def stA (hm : List Int) (p : Int) : Int := if p ∈ hm then 0 else 1
/-- an option all of whose successors come to S in k steps -/
def NdK (A : Ar) (f : Nat → Mk') (p : Int) (k : Nat) : Prop := ∃ i o, OptAt A p.toNat i o ∧ ∀ s ∈ o, f k s = true
structure Ch (A : Ar) (hm : List Int) (S : Int → Prop) (lim : Nat) (b : Tl) : Prop where
  ln : lim ≤ A.length
  sub : ∀ p, S p → p ∈ hm ∧ 0 ≤ p ∧ p < (A.length : Int)
  upS : ∀ k, k < lim → ∀ p, p ∈ hm → Gk A hm k p 0 → S p
  lo : ∀ p w, b p = some w → (lim : Int) ≤ w ∧ w < (A.length : Int)
  is : ∀ k, lim ≤ k → k < A.length → ∀ p : Int, 0 ≤ p → p < (A.length : Int) → (Gk A hm k p (stA hm p) ↔ ∃ w, b p = some w ∧ w ≤ (k : Int))
/-- take_lesser: the lesser of what is had and of the beat and the way -/
def Lsr (f : Nat → Mk') (beat : Nat) (b b' : Tl) (p : Int) : Prop := ∀ k : Nat, ((∃ w, b' p = some w ∧ w ≤ (k : Int)) ↔ (∃ w, b p = some w ∧ w ≤ (k : Int)) ∨ (beat ≤ k ∧ f k p = true))
section
variable {A : Ar} {hm : List Int} {S : Int → Prop} {f : Nat → Mk'} {lim : Nat} {b b' : Tl}
theorem ch_start (hhm : ∀ x ∈ hm, 0 ≤ x ∧ x < (A.length : Int)) : Ch A hm (fun p => p ∈ hm) A.length fun _ => none :=
  ⟨Nat.le_refl _, fun p hp => ⟨hp, hhm p hp⟩, fun k _ p hp _ => hp, fun p w h => (nomatch h), fun k h1 h2 => by omega⟩
theorem NdK.mono (R : Rds A hm S f) {p : Int} {k k' : Nat} (h : k ≤ k') (hp : NdK A f p k) : NdK A f p k' := by
  obtain ⟨i, o, ho, hall⟩ := hp
  exact ⟨i, o, ho, fun s hs => up_le (fun k p e => R.up k p e) h (hall s hs)⟩
theorem Ch.less (hG : ArG A) (C : Ch A hm S lim b) (R : Rds A hm S f) {beat : Nat} (hb : beat < lim) (hn : ∀ p, S p → NdK A f p beat) (hl : ∀ p : Int, 0 ≤ p → p < (A.length : Int) → Lsr f beat b b' p) (hlt : ∀ p w, b' p = some w → 0 ≤ p ∧ p < (A.length : Int) ∧ (beat : Int) ≤ w ∧ w < (A.length : Int)) : Ch A hm (fun p => S p ∧ ∃ k, k < beat ∧ NdK A f p k) beat b' := by
  have hS : ∀ k, beat ≤ k → ∀ p, S p → p ∈ hm ∧ 0 ≤ p ∧ p < (A.length : Int) ∧ ∃ i o, OptAt A p.toNat i o ∧ ∀ s ∈ o, f k s = true := fun k hk p hp => by
    obtain ⟨h1, h2, h3⟩ := C.sub p hp
    exact ⟨h1, h2, h3, (hn p hp).mono R hk⟩
  refine ⟨by have := C.ln; omega, fun p hp => C.sub p hp.1, fun k hk p hp h => ⟨C.upS k (by omega) p hp h, k, hk, ?_⟩, fun p w h => (hlt p w h).2.2, fun k hk hkn p p0 p1 => ?_⟩
  · exact pst_home hG R (gk_pst A hm k) (C.upS k (by omega)) h
  · rw [hl p p0 p1 k]
    rcases Nat.lt_or_ge k lim with hkl | hkl
    · rw [show stA hm p = if p ∈ hm then 0 else 1 from rfl, gk_is hG R (C.upS k hkl) (hS k hk) p p0 p1]
      constructor
      · intro h
        exact .inr ⟨hk, h⟩
      · rintro (⟨w, h1, h2⟩ | ⟨_, h⟩)
        · have := (C.lo p w h1).1
          omega
        · exact h
    · rw [C.is k hkl hkn p p0 p1]
      constructor
      · exact .inl
      · rintro (h | ⟨_, h⟩)
        · exact h
        · refine (C.is k hkl hkn p p0 p1).mp ⟨_, pst_of hG R k (hS k hk), ?_⟩
          unfold stA
          by_cases hp : p ∈ hm
          · rw [if_pos hp]
            rw [R.hom k p hp p0] at h
            exact .inl ⟨(R.st p p0).mp h, rfl⟩
          · rw [if_neg hp]
            obtain ⟨r, h4, h5, _⟩ := R.first k h
            refine .inr ⟨hp, p0, p1, Int.le_refl 1, r, ?_, h5, by omega⟩
            rcases Nat.eq_zero_or_pos r with e | e
            · subst e
              exact absurd (C.sub p ((R.st p p0).mp h5)).1 hp
            · exact e
theorem Ch.drop (hG : ArG A) (C : Ch A hm S lim b) (R : Rds A hm S f) : Ch A hm (fun p => S p ∧ ∃ k, k < lim ∧ NdK A f p k) lim b :=
  ⟨C.ln, fun p hp => C.sub p hp.1, fun k hk p hp h => ⟨C.upS k hk p hp h, k, hk, pst_home hG R (gk_pst A hm k) (C.upS k hk) h⟩, C.lo, C.is⟩
theorem no_home (hG : ArG A) {k : Nat} (h : ∀ p, p ∈ hm → ¬ Gk A hm k p 0) {p a : Int} : ¬ Gk A hm k p a := by
  intro hp
  have R : Rds A hm (fun _ => False) fun _ _ => false := by
    refine ⟨fun _ => rfl, fun p _ => ⟨fun h => (nomatch h), fun h => h.elim⟩, fun _ _ _ _ => rfl, fun k i hi _ => ⟨fun h => (nomatch h), fun h => ?_⟩, fun _ _ h => h⟩
    rcases h with h | ⟨j, o, ho, hall⟩
    · cases h
    · obtain ⟨s, hs⟩ := List.exists_mem_of_ne_nil _ (ho.good hG).1.ne
      exact hall s hs
  by_cases hpm : p ∈ hm
  · have ha := ((gk_pst A hm k p a hp).1.ha).mp hpm
    subst ha
    exact h p hpm hp
  · have := pst_reach hG R (gk_pst A hm k) (fun q hq hz => h q hq hz) ((k : Int) - a).toNat p a hp hpm (by omega)
    cases this
theorem Ch.end_ (hG : ArG A) (C : Ch A hm S lim b) (hS : ∀ p, ¬ S p) (k : Nat) (hk : k < A.length) (p : Int) (p0 : 0 ≤ p) (p1 : p < (A.length : Int)) : Gk A hm k p (stA hm p) ↔ ∃ w, b p = some w ∧ w ≤ (k : Int) := by
  rcases Nat.lt_or_ge k lim with hkl | hkl
  · constructor
    · intro h
      exact absurd h (no_home hG fun q hq hz => hS q (C.upS k hkl q hq hz))
    · rintro ⟨w, h1, h2⟩
      have := (C.lo p w h1).1
      omega
  · exact C.is k hkl hk p p0 p1
/-- a beat as great as the number of positions is none -/
theorem gk_last (hG : ArG A) {n : Nat} (hS : ∀ p, S p ↔ p ∈ hm ∧ Gk A hm (n + 1) p 0) (R : Rds A hm S f) (hst : ∀ p, f (n + 1) p = true → f n p = true) {p : Int} (h : Gk A hm (n + 1) p (stA hm p)) : Gk A hm n p (stA hm p) := by
  have hd : ∀ q, S q → q ∈ hm ∧ 0 ≤ q ∧ q < (A.length : Int) ∧ ∃ i o, OptAt A q.toNat i o ∧ ∀ s ∈ o, f n s = true := fun q hq => by
    obtain ⟨h1, h2⟩ := (hS q).mp hq
    have hv := (gk_pst A hm _ q 0 h2).1
    obtain ⟨i, o, ho, hall⟩ := pst_home hG R (gk_pst A hm (n + 1)) (fun q hq hz => (hS q).mpr ⟨hq, hz⟩) h2
    exact ⟨h1, hv.p0, hv.p1, i, o, ho, fun s hs => hst s (hall s hs)⟩
  have hv := (gk_pst A hm _ p _ h).1
  refine ⟨_, pst_of hG R n hd, ?_⟩
  unfold stA at h ⊢
  by_cases hp : p ∈ hm
  · rw [if_pos hp] at h ⊢
    exact .inl ⟨(hS p).mpr ⟨hp, h⟩, rfl⟩
  · rw [if_neg hp] at h ⊢
    have hf := hst p (pst_reach hG R (gk_pst A hm (n + 1)) (fun q hq hz => (hS q).mpr ⟨hq, hz⟩) n p 1 h hp (by omega))
    obtain ⟨r, h4, h5, _⟩ := R.first n hf
    refine .inr ⟨hp, hv.p0, hv.p1, Int.le_refl 1, r, ?_, h5, by omega⟩
    rcases Nat.eq_zero_or_pos r with e | e
    · subst e
      exact absurd ((hS p).mp ((R.st p hv.p0).mp h5)).1 hp
    · exact e
end
end NL

set_option maxHeartbeats 4000000
namespace NL
open PySem PySem.Spec PyProof.Rows L2
/-! ### the rounds of steps_to are such rounds -/
section
variable {A : Ar} {hm am : List Int} {B : Int → Bool}
theorem mr_rds (hG : ArG A) (ham : ∀ p, p ∈ am ↔ 0 ≤ p ∧ p < (A.length : Int) ∧ p ∉ hm) : Rds A hm (fun p => B p = true) (mr A 0 am (mkO false B)) := by
  have h1 : (-1 : Int) ∉ am := fun h => by have := (ham _).mp h; omega
  refine ⟨fun k => by rw [mr_out h1]; rfl, fun p p0 => ?_, fun k p hp p0 => ?_, fun k i hi hn => ?_, fun k p h => mr_up h⟩
  · show mkO false B p = true ↔ _
    unfold mkO
    rw [if_neg (by omega)]
  · have hna : p ∉ am := fun h => ((ham p).mp h).2.2 hp
    rw [mr_out hna, mr_out hna]
  · obtain ⟨os, hos⟩ : ∃ os, A[i]? = some os := ⟨_, List.getElem?_eq_getElem hi⟩
    have hia : (i : Int) ∈ am := (ham _).mpr ⟨by omega, by omega, hn⟩
    show nxM A 0 am (mr A 0 am (mkO false B) k) (i : Int) = true ↔ _
    unfold nxM
    rw [Bool.or_eq_true, decide_eq_true hia, Bool.true_and, psO_at (by omega) (by rw [Int.toNat_natCast]; exact hos)]
    unfold frcM
    rw [if_pos rfl, List.any_eq_true]
    constructor
    · rintro (h | ⟨o, ho, hall⟩)
      · exact .inl h
      · obtain ⟨j, hj⟩ := List.getElem?_of_mem ho
        exact .inr ⟨j, o, ⟨os, hos, hj⟩, fun s hs => List.all_eq_true.mp hall s hs⟩
    · rintro (h | ⟨j, o, ⟨os', h2, h3⟩, hall⟩)
      · exact .inl h
      · rw [hos] at h2
        cases h2
        exact .inr ⟨o, List.mem_of_getElem? h3, List.all_eq_true.mpr hall⟩
theorem rds_empty {S : Int → Prop} {f : Nat → Mk'} (hG : ArG A) (R : Rds A hm S f) (hS : ∀ p, ¬ S p) (hhm : ∀ x ∈ hm, 0 ≤ x ∧ x < (A.length : Int)) : ∀ (k : Nat) (p : Int), 0 ≤ p → p < (A.length : Int) → f k p = false
  | 0, p, p0, p1 => by
    cases h : f 0 p with
    | false => rfl
    | true => exact absurd ((R.st p p0).mp h) (hS p)
  | k + 1, p, p0, p1 => by
    cases h : f (k + 1) p with
    | false => rfl
    | true =>
      by_cases hp : p ∈ hm
      · rw [R.hom _ p hp p0] at h
        exact absurd ((R.st p p0).mp h) (hS p)
      · obtain ⟨i, rfl, hi⟩ := nat_of p0 p1
        rcases (R.nx k i hi hp).mp h with h | ⟨j, o, ho, hall⟩
        · rw [rds_empty hG R hS hhm k _ p0 p1] at h
          cases h
        · obtain ⟨s, hs⟩ := List.exists_mem_of_ne_nil _ (ho.good hG).1.ne
          have hf := hall s hs
          have hm2 := (ho.good hG).1.mem s hs
          have hne : s ≠ -1 := fun e => by rw [e, R.out] at hf; cases hf
          rw [rds_empty hG R hS hhm k s (by omega) hm2.2] at hf
          cases hf
/-- fewer rounds than positions -/
theorem mr_few (hG : ArG A) (ham : ∀ p, p ∈ am ↔ 0 ≤ p ∧ p < (A.length : Int) ∧ p ∉ hm) (hhm : ∀ x ∈ hm, 0 ≤ x ∧ x < (A.length : Int)) (hB : ∀ p, B p = true → p ∈ hm) {n : Nat} (hn : A.length = n + 1) {p : Int} (p0 : 0 ≤ p) (p1 : p < (A.length : Int)) (h : mr A 0 am (mkO false B) (n + 1) p = true) : mr A 0 am (mkO false B) n p = true := by
  have R := mr_rds (B := B) hG ham
  by_cases hS : ∃ q, B q = true
  rotate_left
  · rw [rds_empty hG R (fun q hq => hS ⟨q, hq⟩) hhm (n + 1) p p0 p1] at h
    cases h
  obtain ⟨q, hq⟩ := hS
  have hqr := hhm q (hB q hq)
  cases hno : mr A 0 am (mkO false B) n p with
  | true => rfl
  | false =>
    have grow : ∀ k, k < n + 1 → ∃ i : Nat, i < A.length ∧ mr A 0 am (mkO false B) k (i : Int) = false ∧ mr A 0 am (mkO false B) (k + 1) (i : Int) = true := fun k hk => by
      refine Classical.byContradiction fun hc => ?_
      have eqv : ∀ x : Int, -1 ≤ x → x < (A.length : Int) → mr A 0 am (mkO false B) (k + 1) x = mr A 0 am (mkO false B) k x := fun x x0 x1 => by
        rcases Int.lt_or_le x 0 with hx | hx
        · rw [show x = -1 by omega, R.out, R.out]
        · obtain ⟨i, rfl, hi⟩ := nat_of hx x1
          cases h1 : mr A 0 am (mkO false B) k (i : Int) with
          | true => exact R.up _ _ h1
          | false =>
            cases h2 : mr A 0 am (mkO false B) (k + 1) (i : Int) with
            | false => rfl
            | true => exact absurd ⟨i, hi, h1, h2⟩ hc
      have st := mr_stop hG.inA eqv
      rw [st (n + 1) (by omega) p (by omega) p1] at h
      rw [st n (by omega) p (by omega) p1, h] at hno
      cases hno
    let g : Nat → Mk' := fun k => match k with
      | 0 => fun _ => false
      | k + 1 => mr A 0 am (mkO false B) k
    have gup : ∀ k x, g k x = true → g (k + 1) x = true := fun k x hx => by
      cases k with
      | zero => cases hx
      | succ k => exact R.up _ _ hx
    have := cnt_rounds (n := A.length) gup (n + 2) fun k hk => by
      cases k with
      | zero =>
        obtain ⟨i, rfl, hi⟩ := nat_of hqr.1 hqr.2
        exact ⟨i, hi, rfl, (R.st _ hqr.1).mpr hq⟩
      | succ k => exact grow k (by omega)
    have hc := cnt_le A.length (g (n + 2))
    omega
end
end NL

set_option maxHeartbeats 4000000
namespace NL
open PySem PySem.Spec PyProof.Rows L2
/-! ### for over a list or a tuple -/
section
variable {X : Cx} {tg : Expr}
def iSeq (K : PySem.W.Frag) (tl : TE) : TI := fun σ H R => tl σ H fun x H1 => ∃ a, x = .ref a ∧ (((∃ xs, SqL K H1 a xs) ∧ R (Itl K a) H1) ∨ ((∃ xs, SqT K H1 a xs) ∧ R (Itt K a) H1))
theorem pi_seq {l : Expr} {tl : TE} (hl : PE X l tl) : PI X tg l (iSeq X.K tl) := by
  refine ⟨fun pins s σ H R I h => ?_⟩
  refine thn (hl.run pins s σ H _ I h) fun v s1 ⟨x, H1, I1, r1, q1⟩ => ?_
  obtain ⟨a, e, q⟩ := q1
  subst e
  cases r1
  rcases q with ⟨⟨xs, hq⟩, q⟩ | ⟨⟨xs, hq⟩, q⟩
  · obtain ⟨its, rv, p, hz⟩ := I1.list hq
    refine wpAny_pyIter_list p.isList ?_
    refine ⟨s1.heap.objs.size, [s1.heap.objs.size], _, _, H1, rfl, I1.kept (t' := s1.toks) fun b o e => Heap.get?_push_of_some _ e, turn_list a _, ⟨_, Heap.get?_push_size _ rfl, rfl, rfl⟩, fun b hb => ?_, q⟩
    have e : b = s1.heap.objs.size := by simpa using hb
    subst e
    exact I1.fpOk (Nat.le_refl _) (I1.hok.fresh (Nat.le_refl _))
  · obtain ⟨its, rv, p, hz⟩ := I1.tuple hq
    refine wpAny_pyIter_tuple (show s1.heap.IsTuple a its.toArray from p) ?_
    refine ⟨s1.heap.objs.size, [s1.heap.objs.size], _, _, H1, rfl, I1.kept (t' := s1.toks) fun b o e => Heap.get?_push_of_some _ e, turn_tuple a _, ⟨_, Heap.get?_push_size _ rfl, rfl, rfl⟩, fun b hb => ?_, q⟩
    have e : b = s1.heap.objs.size := by simpa using hb
    subst e
    exact I1.fpOk (Nat.le_refl _) (I1.hok.fresh (Nat.le_refl _))
end
end NL

set_option maxHeartbeats 4000000
namespace NL
open PySem PySem.Spec PyProof.Rows L2
/-! ### list(d.values()) -/
def tListVals (td : TE) : TE := fun σ H Q => td σ H fun x H1 => ∃ (a : Addr) (kvs : List (Key × V)), x = V.ref a ∧ H1 a = some (.dK kvs) ∧ ∀ p, H1 p = none → Q (.ref p) (upd H1 p (.lst (kvs.map (·.2))))
theorem vals_of_kv {kvs : List (Key × V)} {vs : List (Key × Value)} (rel : KV kvs vs) {l : List Value} (hl : l.length = vs.length) (hv : ∀ (i : Nat) v, l[i]? = some v → ∃ k, vs[i]? = some (k, v)) : L2.Vals (kvs.map (·.2)) l := by
  induction rel generalizing l with
  | nil =>
    have : l = [] := List.length_eq_zero_iff.mp hl
    subst this
    exact .nil
  | cons h r ih =>
    cases l with
    | nil => cases hl
    | cons v l =>
      obtain ⟨k, hk⟩ := hv 0 v rfl
      have hk := Option.some.inj hk
      refine .cons ?_ (ih (by simpa using hl) fun i w hw => hv (i + 1) w hw)
      first
        | exact hk ▸ h.2
        | (rw [hk] at h; exact h.2)
        | (rw [hk] at h; exact h)
theorem pe_listVals {X : Cx} {o : Expr} {p pos apos mpos : Pos} {td : TE} (hc : X.calm = true) (hg : Gl X "list") (hm : X.mg "list" = none) (hd : PE X o td) (hb : attributeBase o "values" X.env (eval o X.env) = eval o X.env := by rfl) (hli : (apos.endLine == mpos.line) = true := by rfl)
    (hse : starEach [Expr.Call (.Attribute o "values" apos) [] [] mpos] X.env = [(false, eval (Expr.Call (.Attribute o "values" apos) [] [] mpos) X.env)] := by rfl) : PE X (.Call (.Name "list" p) [.Call (.Attribute o "values" apos) [] [] mpos] [] pos) (tListVals td) := by
  refine ⟨fun pins s σ H Q I h => ?_⟩
  refine wpAny_Call_Name_kw (ld_blt I hg hm (u := .type "list") (by first | rfl | decide +kernel) ?_ (by first | decide +kernel | decide) (by first | decide +kernel | decide))
  rw [hse]
  refine PySem.callWith_type1 (wpAny_Call_method0_late hb hli (thn (hd.run pins s σ H _ I h) fun v s1 ⟨x, H1, I1, r1, a, kvs, ex, ha, q⟩ => ?_))
  subst ex
  cases r1
  obtain ⟨hz, lo, vs, rel, dof⟩ := dk_of I1.hok ha
  obtain ⟨ep, dat⟩ := dof.dictAt
  have hat := dat
  obtain ⟨ob, es, ho, ex, _⟩ := hat
  refine ⟨"dict", "dict.values", F.plainAttrs_dict, F.slot_dict_values, F.type_dict_values, ⟨ob, ho, ex.1⟩, fun b e => ?_, Calls.callWith_builtin rfl (PySem.evalArgs_none ?_)⟩
  · cases e
    exact ⟨ob, ho, ex.2.1⟩
  refine call_meetsIn F.slot_dict_values ⟨ob, ho, ex.1⟩ F.entry_dict_values (F.args_dict_values_1 _) (meets_dict_values (mixKind X.prog X.w) a lo) ⟨⟨vs, dof⟩, ?_⟩
  have up : ∀ b u, s1.heap.get? b = some u → (s1.heap.push { cls := .type "dict_values", data := .fields #[.ref a] }).get? b = some u := fun b u e => Heap.get?_push_of_some _ e
  have hvl : vs.length ≤ sizeLine := by rw [← KV.length rel]; exact hz
  refine PySem.W.kdl_call (PySem.W.kdl_values (knd := mixKind X.prog X.w) (r := s1.heap.objs.size) (d := a) (kvs := vs) (ep := ep)) (I.ok.hd hc) ⟨⟨_, Heap.get?_push_size _ rfl, rfl, rfl⟩, dat.keep up⟩ hvl fun h' tk acc c kp e it => ?_
  have hsz : (s1.heap.push { cls := .type "dict_values", data := .fields #[.ref a] }).objs.size = s1.heap.objs.size + 1 := Heap.size_push _ _
  rw [hsz] at e ⊢
  have rv : L2.Vals (kvs.map (·.2)) acc.toList := vals_of_kv rel (by rw [Array.length_toList]; exact it.1) fun i v hv => it.2 i v (by rw [← Array.getElem?_toList]; exact hv)
  refine ⟨.ref (s1.heap.objs.size + 1), _, I1.laid (t' := tk) (o := .lst (kvs.map (·.2))) (fun b u eb => kp b u (up b u eb)) (Nat.le_succ _) ?_, rfl, q _ (I1.hok.fresh (Nat.le_succ _))⟩
  exact ⟨by rw [List.length_map]; exact hz, acc.toList, c, rv, by rw [Array.toArray_toList]; exact e⟩
end NL

set_option maxHeartbeats 4000000
namespace NL
open PySem PySem.Spec PyProof.Rows L2
theorem hu65_of {A : Around} {k : Nat} (hr : Room k A) : A.units + 65 < cLine := by
  have := hr.un
  omega
theorem op_notInDK {X : Cx} {K : PySem.W.Frag} (h : X.K = K) (hu : X.A.units + 65 < cLine) : OpR X (compareOp .NotIn) (rNotInD K) := by
  subst h
  exact op_notInD hu
theorem cr_maxK {X : Cx} {K : PySem.W.Frag} (h : X.K = K) (hc : X.calm = true) : CallR X (.builtin "max") (rMax K) := by
  subst h
  exact cr_max hc
/-! ### min of a list of ints with a default -/
def rDfL (K : PySem.W.Frag) : List V → List V → Hp → VK → Prop := fun vs zs H Q => ∃ (a : Addr) (ns : List Int) (d : Int), vs = [V.ref a] ∧ zs = [V.int d] ∧ SqL K H a (ns.map V.int) ∧ ∀ m, (ns = [] → m = d) → (ns ≠ [] → m ∈ ns ∧ ∀ y, y ∈ ns → m ≤ y) → Q (.int m) H
theorem intsAtL {ns : List Int} {its : List Value} (rv : L2.Vals (ns.map V.int) its) {i : Nat} {v : Value} (h : its.toArray[i]? = some v) : ∃ n t, ns[i]? = some n ∧ v = .int n t := by
  have hv2 : its[i]? = some v := by simpa using h
  have hil := (List.getElem?_eq_some_iff.mp hv2).1
  have hl := rv.length
  rw [List.length_map] at hl
  have hn := List.getElem?_eq_getElem (show i < ns.length by omega)
  obtain ⟨u, hu1, ru⟩ := rv.get (i := i) (x := V.int ns[i]) (by rw [List.getElem?_map, hn]; rfl)
  rw [hv2] at hu1
  cases hu1
  obtain ⟨t, rfl⟩ := ru
  exact ⟨_, t, hn, rfl⟩
theorem cr_minDfL {X : Cx} (hc : X.calm = true) : CallRK X (.builtin "min") [Str.ofString "default"] (rDfL X.K) := by
  intro pins s σ H vs zs us ws Q I r rz h
  obtain ⟨a, ns, d, rfl, rfl, hs, q⟩ := h
  obtain ⟨its, rv, hl, _⟩ := I.list hs
  rw [Vals.ref1 r]
  obtain ⟨w1, rfl, e1⟩ := vals1 rz
  obtain ⟨td, rfl⟩ := e1
  have hitl := rv.length
  rw [List.length_map] at hitl
  refine call_min_walkD (PySem.W.iter_listW (A := X.A.in1) (I.ok.hd hc) hl.isList fun s₂ e W st hfp hw hk => ?_)
  refine ⟨_, _, _, _, _, _, _, s.heap, (fun i j => decide (ns.getD i 0 < ns.getD j 0)), rfl, W, st, hfp, hw, hk, fun hn s' m => ?_, fun hn => ⟨?_, fun v s' hP m => ?_⟩⟩
  · obtain ⟨h', tk, rfl, hk'⟩ := PySem.W.moved_old e rfl m
    have hne : ns = [] := List.length_eq_zero_iff.mp (by rw [List.size_toArray] at hn; omega)
    exact ⟨.int d, H, I.kept hk', ⟨_, rfl⟩, q d (fun _ => rfl) (fun h => absurd hne h)⟩
  · intro i j vi vj s' Q' E' hk' hi hj hQ
    obtain ⟨n1, t1, h1, rfl⟩ := intsAtL rv hi
    obtain ⟨n2, t2, h2, rfl⟩ := intsAtL rv hj
    refine PyProof.Rows.lt_int ?_
    have hQ2 : Q' (.bool (decide (ns.getD i 0 < ns.getD j 0))) s' := hQ
    rw [show ns.getD i 0 = n1 by rw [List.getD_eq_getElem?_getD, h1]; rfl, show ns.getD j 0 = n2 by rw [List.getD_eq_getElem?_getD, h2]; rfl] at hQ2
    exact hQ2
  · obtain ⟨h', tk, rfl, hk'⟩ := PySem.W.moved_old e rfl m
    obtain ⟨b1, b2⟩ := argBest_lt (fun i => ns.getD i 0) (its.toArray.size - 1)
    obtain ⟨n, t, h1, rfl⟩ := intsAtL rv hP
    refine ⟨.int n, H, I.kept hk', ⟨_, rfl⟩, q n (fun h => by rw [h] at h1; cases h1) fun _ => ⟨List.mem_of_getElem? h1, fun y hy => ?_⟩⟩
    obtain ⟨j, hj⟩ := List.getElem?_of_mem hy
    have hjl := (List.getElem?_eq_some_iff.mp hj).1
    have h3 := b2 j (by rw [List.size_toArray]; omega)
    have h4 : ns.getD (argBest (fun i j => decide (ns.getD i 0 < ns.getD j 0)) (its.toArray.size - 1)) 0 = n := by rw [List.getD_eq_getElem?_getD, h1]; rfl
    have h5 : ns.getD j 0 = y := by rw [List.getD_eq_getElem?_getD, hj]; rfl
    rw [← h5, ← h4]
    exact h3
/-! ### _need -/
/-- a dict of ranks -/
def DkT (kvs : List (Key × V)) (R : Tl) : Prop := ∀ p : Int, valV kvs (Sum.inl p : Key) = (R p).map V.int
def rkO (R : Tl) (n : Int) (s : Int) : Int := (R s).getD n
section
variable {P : Program} {w : World} {K : PySem.W.Frag} {mg : Str → Option Value} {base : Heap}
def spNeed : Sp := fun vs H Q _ => ∃ (v : V) (D : Addr) (n : Int) (os : Pos') (kvs : List (Key × V)) (R : Tl), vs = [v, .ref D, .int n] ∧ PosIn H os v ∧ os.length ≤ 100 ∧ (∀ o ∈ os, o ≠ [] ∧ o.length ≤ 1000) ∧ H D = some (.dK kvs) ∧ DkT kvs R ∧
  ∀ (m : Int) H', Same H H' → (os = [] → m = n) → (os ≠ [] → (∃ (i : Nat) (o : Opt), os[i]? = some o ∧ ∀ s ∈ o, rkO R n s ≤ m) ∧ ∀ (i : Nat) (o : Opt), os[i]? = some o → ∃ s ∈ o, m ≤ rkO R n s) → Q (.int m) H'
theorem ok_need (T : Txt K mg) : FnOk P w K mg base CX0 1 T.a_need T.d_need P_need spNeed := by
  refine T.F_need.ok sc_need (fun vs H Q E h => ?_) (fun cdv A outer s H vs Q E hr h => ?_)
  · obtain ⟨v, D, n, os, kvs, R, rfl, _⟩ := h
    rfl
  obtain ⟨v, D, n, os, kvs, R, rfl, hv, hol, hog, kD, hR, q⟩ := h
  obtain ⟨b1, ys, rfl, e1, hys⟩ := id hv
  have hyl := hys.1
  refine ⟨_, (pss_one (ps_ret (pe_callBK (cr_minDfL rfl) (by rfl) T.z_min (by decide +kernel) (pa_cons (pe_lc (own := [("option", 4)]) (g := (gName 4)) (tt := tYes) rfl sc_need.nd (pi_tup (pv 0)) (blkOk_by (N := N_need) (sc := defScope s_need) (by decide +kernel)) (fun _ _ _ _ _ => (pg_name (i := 4) sc_need.nd rfl (Or.inl rfl))) (fun _ _ _ _ _ => pts_nil) (fun _ _ _ _ _ => (pe_callB (cr_maxK (K := K) rfl rfl) (by rfl) T.z_max (by decide +kernel) (pa_cons (pe_lc (own := [("after", 3)]) (g := (gName 3)) (tt := tYes) rfl sc_need.nd (pi_tupK (K := K) rfl (pv 4)) (blkOk_by (by rfl)) (fun _ _ _ _ _ => (pg_name (i := 3) sc_need.nd rfl (Or.inl rfl))) (fun _ _ _ _ _ => pts_nil) (fun _ _ _ _ _ => (pe_dget2 (hu_of hr) (pv 1) (pv 3) (pv 2) ⟨rfl, rfl, rfl, rfl⟩))) pa_nil)))) pa_nil) (pk_cons (pv 2) pk_nil)))), ?_⟩
  refine ⟨_, rfl, b1, rfl, ⟨_, sqt e1⟩, fun L hL => ?_⟩
  refine lc_tup (K := K) (a := b1) (xs := ys) (fun (j : Nat) (H' : Hp) => ∃ ns : List Int, Same H H' ∧ H' L = some (.lst (ns.map V.int)) ∧ ns.length = j ∧ ∀ (i : Nat) o x, os[i]? = some o → ns[i]? = some x → (∃ s ∈ o, x = rkO R n s) ∧ ∀ s ∈ o, rkO R n s ≤ x) ?_ ?_ ?_ ?_
  · exact ⟨[], same_new hL _, upd_same, rfl, fun i o x _ h => by simp at h⟩
  · rintro j H' _ ⟨ns, s1, _⟩
    exact sqt (s1 _ _ e1)
  · rintro j x H1 hx ⟨ns, s1, k1, hnl, hns⟩
    have hjl := (List.getElem?_eq_some_iff.mp hx).1
    obtain ⟨o, ho⟩ : ∃ o, os[j]? = some o := ⟨_, List.getElem?_eq_getElem (by omega)⟩
    obtain ⟨u, hu, bo, rfl, eo⟩ := hys.at ho
    rw [hx] at hu
    cases hu
    obtain ⟨one, olen⟩ := hog o (List.mem_of_getElem? ho)
    have hop := List.length_pos_iff.mpr one
    refine ⟨rfl, yes_if ?_⟩
    refine ⟨_, rfl, bo, rfl, ⟨_, sqt (s1 _ _ eo)⟩, fun F hF => ?_⟩
    refine lc_tup (K := K) (a := bo) (xs := o.map V.int) (fun (r : Nat) (H' : Hp) => Same H1 H' ∧ H' F = some (.lst (((o.take r).map (rkO R n)).map V.int))) ?_ ?_ ?_ ?_
    · exact ⟨same_new hF _, upd_same⟩
    · rintro r H' _ ⟨s2, _⟩
      exact sqt (s2 _ _ (s1 _ _ eo))
    · rintro r x H2 hx2 ⟨s2, k2⟩
      have hrl := (List.getElem?_eq_some_iff.mp hx2).1
      rw [List.length_map] at hrl
      rw [List.getElem?_map] at hx2
      obtain ⟨c, hc, rfl⟩ := Option.map_eq_some_iff.mp hx2
      have kD2 := s2 _ _ (s1 _ _ kD)
      refine ⟨rfl, yes_if ?_⟩
      refine ⟨_, rfl, D, rfl, .inl ⟨_, .inl kD2⟩, _, rfl, _, rfl, (R c).map V.int, .inl ⟨kvs, Sum.inl c, .inl kD2, rfl, (hR c).symm⟩, ?_⟩
      have ev : ((R c).map V.int).getD (V.int n) = V.int (rkO R n c) := by
        unfold rkO
        cases R c <;> rfl
      refine ⟨_, k2, big' (by rw [List.length_map, List.length_map, List.length_take]; omega), same_put s2 hF, ?_⟩
      rw [upd_same, List.take_add_one, hc, List.map_append, List.map_append, ev]
      rfl
    rintro H2 ⟨s2, k2⟩
    rw [List.length_map, List.take_length] at k2
    refine ⟨F, _, rfl, sqd k2, by rw [List.length_map]; exact hop, fun mx h1 h2 => ?_⟩
    have k12 := s2 _ _ k1
    refine ⟨_, k12, big' (by rw [List.length_map]; omega), ns ++ [mx], same_put (s1.trans s2) hL, by rw [upd_same, List.map_append]; rfl, by rw [List.length_append, hnl]; rfl, fun i o' x' ho' hx' => ?_⟩
    by_cases hi : i < j
    · rw [List.getElem?_append_left (by omega)] at hx'
      exact hns i o' x' ho' hx'
    · have hil := (List.getElem?_eq_some_iff.mp hx').1
      rw [List.length_append, hnl] at hil
      have hil : i < j + 1 := hil
      have e : i = j := by omega
      subst e
      rw [List.getElem?_append_right (by omega), hnl, Nat.sub_self] at hx'
      cases hx'
      rw [ho] at ho'
      cases ho'
      refine ⟨?_, fun s hs => h2 _ (List.mem_map.mpr ⟨s, hs, rfl⟩)⟩
      obtain ⟨s, hs, e⟩ := List.mem_map.mp h1
      exact ⟨s, hs, e.symm⟩
  rintro H1 ⟨ns, s1, k1, hnl, hns⟩
  refine ⟨_, rfl, L, ns, n, rfl, rfl, sqd k1, fun m h0 h1 => q m H1 s1 (fun e => h0 (List.length_eq_zero_iff.mp (by rw [hnl, hyl, e]; rfl))) fun hne => ?_⟩
  have hnn : ns ≠ [] := fun e => hne (List.length_eq_zero_iff.mp (by rw [← hyl, ← hnl, e]; rfl))
  obtain ⟨hm, hle⟩ := h1 hnn
  constructor
  · obtain ⟨i, hi⟩ := List.getElem?_of_mem hm
    have hil := (List.getElem?_eq_some_iff.mp hi).1
    obtain ⟨o, ho⟩ : ∃ o, os[i]? = some o := ⟨_, List.getElem?_eq_getElem (by omega)⟩
    exact ⟨i, o, ho, (hns i o m ho hi).2⟩
  · intro i o ho
    have hil := (List.getElem?_eq_some_iff.mp ho).1
    obtain ⟨x, hx⟩ : ∃ x, ns[i]? = some x := ⟨_, List.getElem?_eq_getElem (by omega)⟩
    obtain ⟨⟨s, hs, e⟩, _⟩ := hns i o x ho hx
    have := hle x (List.mem_of_getElem? hx)
    exact ⟨s, hs, by omega⟩
end
end NL

set_option maxHeartbeats 4000000
namespace NL
open PySem PySem.Spec PyProof.Rows L2
/-! ### lists of beats (out of KE_dij, KF_due) -/
def setT (T : Tl) (a : Int) (w : Option Int) : Tl := fun x => if x = a then w else T x
theorem setT_same {T : Tl} {a : Int} {w : Option Int} : setT T a w a = w := if_pos rfl
theorem setT_ne {T : Tl} {a x : Int} {w : Option Int} (h : x ≠ a) : setT T a w x = T x := if_neg h
def ovV : Option Int → V
  | none => .non
  | some i => .int i
def tlV (n : Nat) (D : Tl) : List V := (List.range n).map fun k : Nat => ovV (D (k : Int))
theorem tlV_len (n : Nat) (D : Tl) : (tlV n D).length = n := by unfold tlV; rw [List.length_map, List.length_range]
theorem tlV_at {n : Nat} {D : Tl} {k : Nat} (h : k < n) : (tlV n D)[k]? = some (ovV (D (k : Int))) := by
  unfold tlV
  rw [List.getElem?_map, List.getElem?_range h]
  rfl
theorem tlV_get {n : Nat} {D : Tl} {p : Int} (h0 : 0 ≤ p) (h1 : p < (n : Int)) : atI (tlV n D) p = some (ovV (D p)) := by
  obtain ⟨k, rfl, hk⟩ := nat_of h0 h1
  exact atI_nat (tlV_at hk)
theorem tlV_ext {n : Nat} {D E : Tl} (h : ∀ k : Nat, k < n → D (k : Int) = E (k : Int)) : tlV n D = tlV n E := List.map_congr_left fun k hk => by rw [h k (List.mem_range.mp hk)]
theorem tlV_set {n i : Nat} {D : Tl} {w : Option Int} (hi : i < n) : (tlV n D).set i (ovV w) = tlV n (setT D (i : Int) w) := by
  refine List.ext_getElem? fun k => ?_
  rw [List.getElem?_set]
  by_cases hk : i = k
  · subst hk
    rw [if_pos rfl, if_pos (by rw [tlV_len]; exact hi), tlV_at hi, setT_same]
  · rw [if_neg hk]
    rcases Nat.lt_or_ge k n with h | h
    · rw [tlV_at h, tlV_at h, setT_ne (by omega)]
    · rw [List.getElem?_eq_none (by rw [tlV_len]; exact h), List.getElem?_eq_none (by rw [tlV_len]; exact h)]
theorem tlV_snoc (n : Nat) (D : Tl) : tlV (n + 1) D = tlV n D ++ [ovV (D (n : Int))] := by
  unfold tlV
  rw [List.range_succ, List.map_append]
  rfl
/-! ### _take_lesser -/
def HasK (l : List (Key × V)) (k : Nat) : Prop := ∃ e ∈ l, e.1 = (Sum.inl (k : Int) : Key)
def mxT (beat r : Int) : Int := if r > beat then r else beat
def cmT (b R : Tl) (beat : Int) : Tl := fun p => match R p with
  | none => b p
  | some r => match b p with
    | none => some (mxT beat r)
    | some w => if mxT beat r < w then some (mxT beat r) else some w
theorem cmT_none {b R : Tl} {beat p : Int} (h : R p = none) : cmT b R beat p = b p := by
  unfold cmT
  rw [h]
section
variable {P : Program} {w : World} {K : PySem.W.Frag} {mg : Str → Option Value} {base : Heap}
def spLess : Sp := fun vs H Q _ => ∃ (bl D : Addr) (beat : Int) (n : Nat) (b R : Tl) (kvs : List (Key × V)), vs = [.ref bl, .ref D, .int beat] ∧ H bl = some (.lst (tlV n b)) ∧ H D = some (.dK kvs) ∧ DkT kvs R ∧ (∀ e ∈ kvs, ∃ k : Nat, k < n ∧ e.1 = (Sum.inl (k : Int) : Key)) ∧
  ∀ H', (∀ x o, x ≠ bl → H x = some o → H' x = some o) → H' bl = some (.lst (tlV n (cmT b R beat))) → Q .non H'
theorem ok_take_lesser (T : Txt K mg) : FnOk P w K mg base CX0 1 T.a_take_lesser T.d_take_lesser P_take_lesser spLess := by
  refine T.F_take_lesser.ok sc_take_lesser (fun vs H Q E h => ?_) (fun cdv A outer s H vs Q E hr h => ?_)
  · obtain ⟨bl, D, beat, n, b, R, kvs, rfl, _⟩ := h
    rfl
  obtain ⟨bl, D, beat, n, b, R, kvs, rfl, kb, kD, hR, hkey, q⟩ := h
  have nbD : bl ≠ D := fun e => by rw [e, kD] at kb; cases kb
  refine ⟨_, (pss_one (ps_lock (ps_for PassesOwn.never rfl (pi_keys (pv 1)) (pg_name (i := 3) sc_take_lesser.nd rfl (Or.inl rfl))
    (pss_cons (ps_set (i := 4) sc_take_lesser.nd rfl (Or.inl rfl) (pe_callB (call_max2 rfl) (by rfl) T.z_max (by decide +kernel) (pa_cons (pv 2) (pa_cons (pe_dget (hu_of hr) (pv 1) (pv 3) (fun _ _ => rfl)) pa_nil))))
    (pss_one (ps_if (PW.pt (pw_or (pt_cmpR op_isN (pe_ix ix_list (pv 0) (pv 3) (fun _ _ => rfl)) pe_non (nomark _)) (pw_or1 (pt_cmpR op_lt (pv 4) (pe_ix ix_list (pv 0) (pv 3) (fun _ _ => rfl)) (nomark _)))))
    (pss_one (ps_asg (pv 4) (pg_sub (pv 0) (pv 3) set_list)))
    pss_nil)))))), ?_⟩
  refine ⟨D, .dK kvs, kD, trivial, fun od => ?_⟩
  refine ⟨_, rfl, D, od, rfl, .inl ⟨kvs, upd_same, ?_⟩⟩
  refine for_it walk_keys (fun (i : Nat) (σ : L2.St) (H' : Hp) => ∃ (c : Tl) (y3 y4 : Option V), σ = [some (.ref bl), some (.ref D), some (.int beat), y3, y4] ∧ H' D = some (.frz od (.dK kvs)) ∧ (∀ x o, x ≠ bl → x ≠ D → H x = some o → H' x = some o) ∧ H' bl = some (.lst (tlV n c)) ∧ ∀ k : Nat, k < n → (HasK (kvs.take i) k → c (k : Int) = cmT b R beat (k : Int)) ∧ (¬ HasK (kvs.take i) k → c (k : Int) = b (k : Int))) ?_ ?_ ?_ ?_
  · refine ⟨b, none, none, rfl, upd_same, fun x o _ hx e => by rw [upd_ne hx]; exact e, by rw [upd_ne nbD]; exact kb, fun k hk => ⟨fun ⟨e, he, _⟩ => (by rw [List.take_zero] at he; cases he), fun _ => rfl⟩⟩
  · rintro i σ H' _ ⟨c, y3, y4, rfl, e1, _⟩
    exact e1
  · rintro i x σ H1 H2 hi ⟨c, y3, y4, rfl, e1, hk1, kb1, hc⟩ ⟨rfl, key, u, hku, rfl⟩
    obtain ⟨k, hkn, hke⟩ := hkey _ (List.mem_of_getElem? hku)
    have hke : key = Sum.inl (k : Int) := hke
    subst hke
    have hval := hR (k : Int)
    obtain ⟨r, hr'⟩ : ∃ r, R (k : Int) = some r := by
      cases hRk : R (k : Int) with
      | some r => exact ⟨r, rfl⟩
      | none =>
        rw [hRk] at hval
        have hm : (kvs.any fun kv => decide (kv.1 = (Sum.inl (k : Int) : Key))) = true := List.any_eq_true.mpr ⟨_, List.mem_of_getElem? hku, decide_eq_true rfl⟩
        rw [valV_any, hval] at hm
        cases hm
    rw [hr'] at hval
    have hat := atI_nat (tlV_at (D := c) hkn)
    refine ⟨_, rfl, _, rfl, _, rfl, D, V.int r, rfl, .inl ⟨kvs, Sum.inl (k : Int), .inr ⟨od, e1⟩, rfl, hval.symm⟩, beat, r, rfl, ?_⟩
    have next : ∀ c' : Tl, (∀ k' : Nat, k' < n → k' ≠ k → c' (k' : Int) = c (k' : Int)) → c' (k : Int) = cmT b R beat (k : Int) → ∀ k' : Nat, k' < n → (HasK (kvs.take (i + 1)) k' → c' (k' : Int) = cmT b R beat (k' : Int)) ∧ (¬ HasK (kvs.take (i + 1)) k' → c' (k' : Int) = b (k' : Int)) := fun c' h1 h2 k' hk' => by
      by_cases e : k' = k
      · subst e
        exact ⟨fun _ => h2, fun h => absurd ⟨_, (foldK_take hku _).mpr (.inr rfl), rfl⟩ h⟩
      · rw [h1 k' hk' e]
        have : HasK (kvs.take (i + 1)) k' ↔ HasK (kvs.take i) k' := by
          constructor
          · rintro ⟨e1, h1, h2⟩
            rcases (foldK_take hku _).mp h1 with h1 | h1
            · exact ⟨e1, h1, h2⟩
            · rw [h1] at h2
              exact absurd (Int.ofNat.inj (Sum.inl.inj h2)).symm e
          · rintro ⟨e1, h1, h2⟩
            exact ⟨e1, (foldK_take hku _).mpr (.inl h1), h2⟩
        rw [this]
        exact hc k' hk'
    have hcm : cmT b R beat (k : Int) = match b (k : Int) with
        | none => some (mxT beat r)
        | some w => if mxT beat r < w then some (mxT beat r) else some w := by
      unfold cmT
      rw [hr']
    have hck : c (k : Int) = cmT b R beat (k : Int) ∨ c (k : Int) = b (k : Int) := by
      by_cases h : HasK (kvs.take i) k
      · exact .inl ((hc k hkn).1 h)
      · exact .inr ((hc k hkn).2 h)
    have put : ∀ H', H' = upd H2 bl (.lst ((tlV n c).set ((k : Int)).toNat (V.int (mxT beat r)))) → (H' D = some (.frz od (.dK kvs)) ∧ (∀ x o, x ≠ bl → x ≠ D → H x = some o → H' x = some o) ∧ H' bl = some (.lst (tlV n (setT c (k : Int) (some (mxT beat r)))))) := fun H' e => by
      subst e
      refine ⟨by rw [upd_ne nbD.symm]; exact e1, fun x o hx hxD e => by rw [upd_ne hx]; exact hk1 x o hx hxD e, ?_⟩
      rw [upd_same, Int.toNat_natCast, show V.int (mxT beat r) = ovV (some (mxT beat r)) from rfl, tlV_set hkn]
    refine ⟨_, rfl, _, rfl, bl, _, _, _, rfl, rfl, sqd kb1, hat, rfl, _, rfl, ?_⟩
    cases hcv : c (k : Int) with
    | none =>
      refine ifT rfl (iteT ?_)
      refine ⟨_, rfl, _, rfl, _, rfl, bl, _, _, _, rfl, rfl, kb1, ixN_in (by omega) (by rw [tlV_len]; omega), ?_⟩
      obtain ⟨p1, p2, p3⟩ := put _ rfl
      refine ⟨setT c (k : Int) (some (mxT beat r)), _, _, rfl, p1, p2, p3, next _ (fun k' _ hk' => setT_ne (by omega)) ?_⟩
      rw [setT_same, hcm]
      have hb : b (k : Int) = none := by
        rcases hck with h | h
        · rw [hcv] at h
          rw [hcm] at h
          cases hb : b (k : Int) with
          | none => rfl
          | some w' =>
            rw [hb] at h
            revert h
            show none = (if mxT beat r < w' then some (mxT beat r) else some w') → _
            split <;> exact fun h => nomatch h
        · rw [← h]
          exact hcv
      rw [hb]
    | some wv =>
      rw [hcv] at hat
      refine ifF rfl ?_
      refine ⟨_, rfl, _, rfl, _, rfl, bl, _, _, _, rfl, rfl, sqd kb1, hat, _, _, rfl, rfl, _, rfl, ?_⟩
      have same : ∀ w', b (k : Int) = some w' → (wv = w' ∨ (mxT beat r < w' ∧ wv = mxT beat r)) := fun w' hb => by
        rcases hck with h | h
        · rw [hcv, hcm, hb] at h
          have h : some wv = (if mxT beat r < w' then some (mxT beat r) else some w') := h
          by_cases hl : mxT beat r < w'
          · rw [if_pos hl] at h
            cases h
            exact .inr ⟨hl, rfl⟩
          · rw [if_neg hl] at h
            cases h
            exact .inl rfl
        · rw [hcv, hb] at h
          cases h
          exact .inl rfl
      have bnone : b (k : Int) = none → wv = mxT beat r := fun hb => by
        rcases hck with h | h
        · rw [hcv, hcm, hb] at h
          exact Option.some.inj h
        · rw [hcv, hb] at h
          cases h
      by_cases hlt : mxT beat r < wv
      · refine ifT (decide_eq_true hlt) ?_
        refine ⟨_, rfl, _, rfl, _, rfl, bl, _, _, _, rfl, rfl, kb1, ixN_in (by omega) (by rw [tlV_len]; omega), ?_⟩
        obtain ⟨p1, p2, p3⟩ := put _ rfl
        refine ⟨setT c (k : Int) (some (mxT beat r)), _, _, rfl, p1, p2, p3, next _ (fun k' _ hk' => setT_ne (by omega)) ?_⟩
        rw [setT_same, hcm]
        cases hb : b (k : Int) with
        | none => rfl
        | some w' =>
          show _ = if mxT beat r < w' then some (mxT beat r) else some w'
          rcases same w' hb with h | ⟨h, h'⟩
          · rw [if_pos (by omega)]
          · omega
      · refine ifF (decide_eq_false hlt) ?_
        refine ⟨c, _, _, rfl, e1, hk1, kb1, next c (fun k' _ _ => rfl) ?_⟩
        rw [hcv, hcm]
        cases hb : b (k : Int) with
        | none =>
          show _ = some (mxT beat r)
          rw [bnone hb]
        | some w' =>
          show _ = if mxT beat r < w' then some (mxT beat r) else some w'
          rcases same w' hb with h | ⟨h, h'⟩
          · rw [if_neg (by omega), h]
          · rw [if_pos h, h']
  · rintro σ H1 ⟨c, y3, y4, rfl, e1, hk1, kb1, hc⟩
    refine ⟨e1, ?_⟩
    refine q _ (fun x o hx e => ?_) ?_
    · by_cases hxD : x = D
      · rw [hxD, kD] at e
        cases e
        rw [hxD, upd_same]
      · rw [upd_ne hxD]
        exact hk1 x o hx hxD e
    · rw [upd_ne nbD, kb1]
      congr 2
      refine tlV_ext fun k hk => ?_
      have hck := hc k hk
      rw [List.take_length] at hck
      by_cases hm : HasK kvs k
      · exact hck.1 hm
      · rw [hck.2 hm]
        refine (cmT_none ?_).symm
        have hval := hR (k : Int)
        cases hRk : R (k : Int) with
        | none => rfl
        | some r =>
          rw [hRk] at hval
          have : (kvs.any fun kv => decide (kv.1 = (Sum.inl (k : Int) : Key))) = true := by
            rw [valV_any, hval]
            rfl
          obtain ⟨e, he, h⟩ := List.any_eq_true.mp this
          exact absurd ⟨e, he, of_decide_eq_true h⟩ hm
end
end NL

set_option maxHeartbeats 4000000
namespace NL
open PySem PySem.Spec PyProof.Rows L2
/-! ### _ranks_to of beats -/
/-- the rounds of coming to ks with no other position of hm on the way -/
def rkF (A : Ar) (hm ks : List Int) : Nat → Mk' := mr A 0 ((psA A.length).filter fun p => !decide (p ∈ hm)) (mkO false fun p => decide (p ∈ ks))
theorem dkR_int {f : Nat → Mk'} {k : Nat} {kvs : List (Key × V)} (h : DkR f k kvs) (p : Int) : ∃ ro : Option Nat, valV kvs (Sum.inl p : Key) = ro.map fun r : Nat => V.int (r : Int) := by
  cases hk : f k p with
  | false => exact ⟨none, (h p).1 (.inl hk)⟩
  | true =>
    cases h0 : f 0 p with
    | true => exact ⟨none, (h p).1 (.inr h0)⟩
    | false =>
      obtain ⟨r, _, hv, _⟩ := (h p).2 hk h0
      exact ⟨some r, hv⟩
section
variable {P : Program} {w : World} {K : PySem.W.Frag} {mg : Str → Option Value} {base : Heap}
def spRkK (K : PySem.W.Frag) (Pt : Addr) : Sp := fun vs H Q _ => ∃ (v : V) (A : Ar) (hp kp : Addr) (hm ks : List Int), vs = [v, .ref hp, .ref kp] ∧ ArQ H A v ∧ A.length ≤ 500 ∧ InA A A.length ∧ H hp = some (.tup (hm.map V.int)) ∧ (H kp = some (.lst (ks.map V.int)) ∨ H kp = some (.tup (ks.map V.int))) ∧ ks.length ≤ 500 ∧ (∀ p ∈ ks, 0 ≤ p ∧ p < (A.length : Int)) ∧ GxR.TabG H Pt ∧
  ∀ D kvs R H', Sm Pt H H' → H D = none → H' D = some (.dK kvs) → DkT kvs R → KyR A.length kvs → (∀ p : Int, 0 ≤ p → p < (A.length : Int) → ∃ ro : Option Nat, IsRk (rkF A hm ks) p ro ∧ R p = ro.map fun r : Nat => (r : Int)) → Q (.ref D) H'
theorem ok_ranks_to (T : Txt K mg) {c Pt : Addr} (TB : GxR.TabB base mg c Pt) (hc : T.dforces.code = .ref c) : FnOk P w K mg base CX0 4 T.a_ranks_to T.d_ranks_to P_ranks_to (spRkK K Pt) := by
  have Gsteps_to := ok_steps_to (P := P) (w := w) T TB hc
  refine T.F_ranks_to.ok sc_ranks_to (fun vs H Q E h => ?_) (fun cdv A outer s H vs Q E hr h => ?_)
  · obtain ⟨v, A, hp, kp, hm, ks, rfl, _⟩ := h
    rfl
  obtain ⟨v, A0, hp, kp, hm, ks, rfl, hA, hn, hin, hh, hkp, hkl, hks, hT, q⟩ := h
  obtain ⟨b0, xs, rfl, hb0, hxs⟩ := id hA
  have hxl := hxs.1
  have hnt : ((xs.length : Nat) : Int).toNat = A0.length := by omega
  have kq : ∀ H', Same H H' → SqL K H' kp (ks.map V.int) ∨ SqT K H' kp (ks.map V.int) := fun H' s => hkp.elim (fun h => .inl (sqd (s _ _ h))) (fun h => .inr (sqt (s _ _ h)))
  refine ⟨_, (pss_cons (ps_set (i := 3) sc_ranks_to.nd rfl (Or.inl rfl) (pe_op op_cat (pe_lc (own := [("at", 4)]) (g := (gName 4)) (tt := tYes) rfl sc_ranks_to.nd (pi_range1 (by rfl) T.z_range (pa_cons (pe_callB call_len_seq (by rfl) T.z_len PySem.boot_len (pa_cons (pv 0) pa_nil)) pa_nil)) (blkOk_by (N := N_ranks_to) (sc := defScope s_ranks_to) (by decide +kernel)) (fun _ _ _ _ _ => (pg_name (i := 4) sc_ranks_to.nd rfl (Or.inl rfl))) (fun _ _ _ _ _ => pts_nil) (fun _ _ _ _ _ => (pe_cmpR (op_in_seqK (K := K) rfl) (pv 4) (pv 2) (by rfl)))) (pe_lst (pa_cons pe_bl pa_nil))))
    (pss_cons (ps_set (i := 5) sc_ranks_to.nd rfl (Or.inl rfl) (pe_call Gsteps_to (hr.mono (by omega)) (by rfl) T.msteps_to T.Fsteps_to.kp T.bsteps_to .nil pass0 (pa_cons (pv 0) (pa_cons (pe_glob rfl T.g_CONTROLLER T.r_CONTROLLER) (pa_cons (pv 3) (pa_cons (pe_lc (own := [("at", 4)]) (g := (gName 4)) (tt := _) rfl sc_ranks_to.nd (pi_range1 (by rfl) T.z_range (pa_cons (pe_callB call_len_seq (by rfl) T.z_len PySem.boot_len (pa_cons (pv 0) pa_nil)) pa_nil)) (blkOk_by (N := N_ranks_to) (sc := defScope s_ranks_to) (by decide +kernel)) (fun _ _ _ _ _ => (pg_name (i := 4) sc_ranks_to.nd rfl (Or.inl rfl))) (fun _ _ _ _ _ => (pts_one (pt_cmpR (op_notIn_seqK (K := K) rfl) (pv 4) (pv 1) (by rfl)))) (fun _ _ _ _ _ => (pv 4))) pa_nil))))))
    (pss_cons (ps_for  PassesOwn.never rfl (pi_seq (pv 2)) (pg_name (i := 4) sc_ranks_to.nd rfl (Or.inl rfl))
    (pss_one (ps_dput (hu_of hr) (pv 5) (pv 4) pe_int rfl)))
    (pss_one (ps_ret (pv 5)))))), ?_⟩
  refine ⟨_, rfl, b0, _, rfl, seqQ hb0, _, rfl, by omega, by omega, fun L hL => ?_⟩
  refine lc_range (lo := 0) (n := ((xs.length : Nat) : Int).toNat) (fun (j : Nat) (H' : Hp) => Same H H' ∧ H' L = some (.lst (((List.range j).map fun i : Nat => decide ((i : Int) ∈ ks)).map V.bl))) ?_ ?_ ?_
  · exact ⟨same_new hL _, upd_same⟩
  · rintro j H1 hj ⟨s1, k1⟩
    refine ⟨rfl, yes_if ?_⟩
    refine ⟨_, rfl, _, rfl, kp, _, rfl, kq _ s1, rfl, flat_ints' ks, _, k1, big' (by rw [List.length_map, List.length_map, List.length_range]; omega), same_put s1 hL, ?_⟩
    rw [upd_same, if_neg Bool.false_ne_true, int_in, Int.zero_add, List.range_succ, List.map_append, List.map_append]
    rfl
  rintro H1 ⟨s1, k1⟩
  rw [hnt] at k1
  refine ⟨Nat.le_of_ble_eq_true rfl, fun l hl => ?_⟩
  obtain ⟨H2, e2, s2, k2⟩ := newH hl (.lst [V.bl false])
  rw [e2]
  refine ⟨L, l, _, _, rfl, rfl, s2 _ _ k1, k2, big (by rw [List.length_map, List.length_map, List.length_range, List.length_singleton]; omega), fun m2 hm2 => ?_⟩
  obtain ⟨H3, e3, s3, k3⟩ := newH hm2 (.lst (((List.range A0.length).map fun i : Nat => decide ((i : Int) ∈ ks)).map V.bl ++ [V.bl false]))
  rw [e3]
  have s13 := (s1.trans s2).trans s3
  have hmarks : ((List.range A0.length).map fun i : Nat => decide ((i : Int) ∈ ks)).map V.bl ++ [V.bl false] = (bsO A0.length (mkO false fun p => decide (p ∈ ks))).map V.bl := by
    rw [bsO_mkO, List.map_append]
    rfl
  have hb3 : H3 b0 = some (.lst xs) ∨ H3 b0 = some (.tup xs) := hb0.elim (fun h => .inl (s13 _ _ h)) (fun h => .inr (s13 _ _ h))
  refine ⟨_, rfl, _, rfl, _, rfl, b0, _, rfl, seqQ hb3, _, rfl, by omega, by omega, fun al hal => ?_⟩
  refine lc_range (lo := 0) (n := ((xs.length : Nat) : Int).toNat) (fun (j : Nat) (H' : Hp) => Same H3 H' ∧ H' al = some (.lst (((psA j).filter fun p => !decide (p ∈ hm)).map V.int))) ?_ ?_ ?_
  · exact ⟨same_new hal _, upd_same⟩
  · rintro j H4 hj ⟨s4, k4⟩
    have hlen : ((psA j).filter fun p => !decide (p ∈ hm)).length ≤ 500 := by
      have h1 := List.length_filter_le (fun p => !decide (p ∈ hm)) (psA j)
      rw [psA_len] at h1
      omega
    have hnext : (psA (j + 1)).filter (fun p => !decide (p ∈ hm)) = (psA j).filter (fun p => !decide (p ∈ hm)) ++ (if (j : Int) ∈ hm then [] else [(j : Int)]) := by
      unfold psA
      rw [List.range_succ, List.map_append, List.filter_append]
      congr 1
      by_cases hj2 : (j : Int) ∈ hm
      · rw [if_pos hj2]
        simp [hj2]
      · rw [if_neg hj2]
        simp [hj2]
    refine ⟨rfl, ?_⟩
    refine ⟨_, rfl, _, rfl, hp, _, rfl, .inr (sqt (s4 _ _ (s13 _ _ hh))), rfl, flat_ints' hm, _, rfl, ?_⟩
    rw [notIn_int, Int.zero_add]
    by_cases hj2 : (j : Int) ∈ hm
    · rw [decide_eq_true hj2]
      refine iteF ⟨s4, ?_⟩
      rw [hnext, if_pos hj2, List.append_nil]
      exact k4
    · rw [decide_eq_false hj2]
      refine iteT ⟨_, rfl, _, k4, big' (by rw [List.length_map]; omega), same_put s4 hal, ?_⟩
      rw [upd_same, hnext, if_neg hj2, List.map_append]
      rfl
  rintro H4 ⟨s4, k4⟩
  rw [hnt] at k4
  have s14 := s13.trans s4
  refine ⟨_, A0, 0, m2, al, mkO false (fun p => decide (p ∈ ks)), (psA A0.length).filter (fun p => !decide (p ∈ hm)), rfl, hA.sm (Sm.of (P := Pt) s14), hn, hin, by rw [s4 _ _ k3, hmarks], k4, ?_, fun p hp => psA_mem.mp (List.mem_filter.mp hp).1, TabG.same hT s14, fun D kvs k H5 s5 hD kD hdk hky hkl5 hst => ?_⟩
  · have h1 := List.length_filter_le (fun p => !decide (p ∈ hm)) (psA A0.length)
    rw [psA_len] at h1
    omega
  have sA : Sm Pt H H5 := (Sm.of s14).trans s5
  have hDH : H D = none := s14.free hD
  have hDP : D ≠ Pt := TabG.ne0 hT hDH
  have J0 : ∃ (kvs' : List (Key × V)) (y4 : Option V), True := ⟨kvs, none, trivial⟩
  obtain ⟨R0, hR0⟩ : ∃ R0 : Int → Option Nat, ∀ p, valV kvs (Sum.inl p : Key) = (R0 p).map fun r : Nat => V.int (r : Int) := ⟨fun p => Classical.choose (dkR_int hdk p), fun p => Classical.choose_spec (dkR_int hdk p)⟩
  have fin : ∀ (kvs' : List (Key × V)) (H' : Hp), Sm Pt H H' → H' D = some (.dK kvs') → (∀ p : Int, valV kvs' (Sum.inl p : Key) = if p ∈ ks then some (.int 0) else valV kvs (Sum.inl p : Key)) → KyR A0.length kvs' → Q (.ref D) H' := fun kvs' H' s' k' hv' hy' => by
    obtain ⟨R, hR⟩ : ∃ R : Tl, ∀ p, R p = if p ∈ ks then some 0 else (R0 p).map fun r : Nat => (r : Int) := ⟨fun p => _, fun p => rfl⟩
    refine q D kvs' R H' s' hDH k' (fun p => ?_) hy' fun p p0 p1 => ?_
    · rw [hv' p, hR p]
      by_cases hp : p ∈ ks
      · rw [if_pos hp, if_pos hp]
        rfl
      · rw [if_neg hp, if_neg hp]
        rw [hR0 p]
        cases R0 p <;> rfl
    · obtain ⟨ro, hro, h0, h1⟩ := hdk.rk hst (p := p) (by omega) p1
      have hM : mkO false (fun p => decide (p ∈ ks)) p = decide (p ∈ ks) := if_neg (by omega)
      refine ⟨ro, hro, ?_⟩
      by_cases hp : p ∈ ks
      · rw [h0 (by rw [hM]; exact decide_eq_true hp)]
        rw [hR p]
        exact if_pos hp
      · have h2 := h1 (by rw [hM]; exact decide_eq_false hp)
        rw [hR0 p] at h2
        rw [hR p, if_neg hp]
        revert h2
        cases R0 p with
        | none =>
          cases ro with
          | none => exact fun _ => rfl
          | some r => exact fun h => by cases h
        | some r' =>
          cases ro with
          | none => exact fun h => by cases h
          | some r =>
            intro h
            show some (r' : Int) = some (r : Int)
            rw [V.int.inj (Option.some.inj h)]
  have st : ∀ (j : Nat) (p : Int) (kvs' : List (Key × V)), ks[j]? = some p → (∀ p : Int, valV kvs' (Sum.inl p : Key) = if p ∈ ks.take j then some (.int 0) else valV kvs (Sum.inl p : Key)) → ∀ y : Int, valV (putK kvs' (Sum.inl p : Key) (.int 0)) (Sum.inl y : Key) = if y ∈ ks.take (j + 1) then some (.int 0) else valV kvs (Sum.inl y : Key) := fun j p kvs' hp hv y => by
    rw [valV_put, hv]
    by_cases hy : y = p
    · rw [if_pos (by rw [hy]), if_pos ((foldK_take hp y).mpr (.inr hy))]
    · rw [if_neg (fun e => hy (Sum.inl.inj e))]
      by_cases hy2 : y ∈ ks.take j
      · rw [if_pos hy2, if_pos ((foldK_take hp y).mpr (.inl hy2))]
      · rw [if_neg hy2, if_neg (fun e => ((foldK_take hp y).mp e).elim hy2 hy)]
  refine ⟨_, rfl, kp, rfl, ?_⟩
  rcases hkp with hkp | hkp
  · refine .inl ⟨⟨_, sqd (sA.lst hkp)⟩, for_list (K := K) (a := kp) (xs := ks.map V.int) (fun (j : Nat) (σ : L2.St) (H' : Hp) => ∃ (kvs' : List (Key × V)) (y4 : Option V), σ = [some (.ref b0), some (.ref hp), some (.ref kp), some (.ref m2), y4, some (.ref D)] ∧ Sm Pt H H' ∧ H' D = some (.dK kvs') ∧ (∀ p : Int, valV kvs' (Sum.inl p : Key) = if p ∈ ks.take j then some (.int 0) else valV kvs (Sum.inl p : Key)) ∧ KyR A0.length kvs' ∧ kvs'.length ≤ 251000 + j) ?_ ?_ ?_ ?_⟩
    · exact ⟨kvs, _, rfl, sA, kD, fun p => by rw [List.take_zero, if_neg (by simp)], hky, hkl5⟩
    · rintro j σ H' _ ⟨kvs', y4, rfl, s6, _⟩
      exact sqd (s6.lst hkp)
    · rintro j x σ H6 hx ⟨kvs', y4, rfl, s6, k6, hv6, hy6, hl6⟩
      rw [List.getElem?_map] at hx
      obtain ⟨p, hp', rfl⟩ := Option.map_eq_some_iff.mp hx
      obtain ⟨p0, p1⟩ := hks p (List.mem_of_getElem? hp')
      have hj := (List.getElem?_eq_some_iff.mp hp').1
      refine ⟨_, rfl, _, rfl, D, _, rfl, DPut.k (k := Sum.inl p) k6 (big' (by omega)), ?_⟩
      refine ⟨putK kvs' (Sum.inl p : Key) (.int 0), _, rfl, s6.put hDH hDP, upd_same, st j p kvs' hp' hv6, hy6.put p0 p1 _, ?_⟩
      have := putK_len' kvs' (Sum.inl p : Key) (V.int 0)
      omega
    · rintro σ H6 ⟨kvs', y4, rfl, s6, k6, hv6, hy6, hl6⟩
      rw [List.length_map] at hv6
      rw [List.take_length] at hv6
      exact ⟨_, rfl, fin kvs' H6 s6 k6 hv6 hy6⟩
  · refine .inr ⟨⟨_, sqt (sA.tup hkp)⟩, for_tup (K := K) (a := kp) (xs := ks.map V.int) (fun (j : Nat) (σ : L2.St) (H' : Hp) => ∃ (kvs' : List (Key × V)) (y4 : Option V), σ = [some (.ref b0), some (.ref hp), some (.ref kp), some (.ref m2), y4, some (.ref D)] ∧ Sm Pt H H' ∧ H' D = some (.dK kvs') ∧ (∀ p : Int, valV kvs' (Sum.inl p : Key) = if p ∈ ks.take j then some (.int 0) else valV kvs (Sum.inl p : Key)) ∧ KyR A0.length kvs' ∧ kvs'.length ≤ 251000 + j) ?_ ?_ ?_ ?_⟩
    · exact ⟨kvs, _, rfl, sA, kD, fun p => by rw [List.take_zero, if_neg (by simp)], hky, hkl5⟩
    · rintro j σ H' _ ⟨kvs', y4, rfl, s6, _⟩
      exact sqt (s6.tup hkp)
    · rintro j x σ H6 hx ⟨kvs', y4, rfl, s6, k6, hv6, hy6, hl6⟩
      rw [List.getElem?_map] at hx
      obtain ⟨p, hp', rfl⟩ := Option.map_eq_some_iff.mp hx
      obtain ⟨p0, p1⟩ := hks p (List.mem_of_getElem? hp')
      have hj := (List.getElem?_eq_some_iff.mp hp').1
      refine ⟨_, rfl, _, rfl, D, _, rfl, DPut.k (k := Sum.inl p) k6 (big' (by omega)), ?_⟩
      refine ⟨putK kvs' (Sum.inl p : Key) (.int 0), _, rfl, s6.put hDH hDP, upd_same, st j p kvs' hp' hv6, hy6.put p0 p1 _, ?_⟩
      have := putK_len' kvs' (Sum.inl p : Key) (V.int 0)
      omega
    · rintro σ H6 ⟨kvs', y4, rfl, s6, k6, hv6, hy6, hl6⟩
      rw [List.length_map] at hv6
      rw [List.take_length] at hv6
      exact ⟨_, rfl, fin kvs' H6 s6 k6 hv6 hy6⟩
end
end NL

set_option maxHeartbeats 4000000
namespace NL
open PySem PySem.Spec PyProof.Rows L2
/-! ### least_beats: what ranks and needs say -/
structure RkR (A : Ar) (f : Nat → Mk') (R : Tl) : Prop where
  is : ∀ p : Int, 0 ≤ p → p < (A.length : Int) → ∃ ro : Option Nat, IsRk f p ro ∧ R p = ro.map fun r : Nat => (r : Int)
  out : ∀ p : Int, ¬ (0 ≤ p ∧ p < (A.length : Int)) → R p = none
  up : ∀ k p, f k p = true → f (k + 1) p = true
  fo : ∀ k, f k (-1) = false
  few : ∀ (p : Int) (r : Nat), 0 ≤ p → p < (A.length : Int) → IsRk f p (some r) → r < A.length
def NdAt (R : Tl) (n : Int) (os : Pos') (m : Int) : Prop := (os = [] → m = n) ∧ (os ≠ [] → (∃ (i : Nat) (o : Opt), os[i]? = some o ∧ ∀ s ∈ o, rkO R n s ≤ m) ∧ ∀ (i : Nat) (o : Opt), os[i]? = some o → ∃ s ∈ o, m ≤ rkO R n s)
theorem dk_out {n : Nat} {kvs : List (Key × V)} {R : Tl} (h : DkT kvs R) (hk : KyR n kvs) {p : Int} (hp : ¬ (0 ≤ p ∧ p < (n : Int))) : R p = none := by
  cases e : R p with
  | none => rfl
  | some r =>
    have hv := h p
    rw [e] at hv
    have : (kvs.any fun kv => decide (kv.1 = (Sum.inl p : Key))) = true := by
      rw [valV_any, hv]
      rfl
    obtain ⟨kv, h1, h2⟩ := List.any_eq_true.mp this
    obtain ⟨k, hk1, hk2⟩ := hk kv h1
    rw [of_decide_eq_true h2] at hk2
    have := Sum.inl.inj hk2
    exact absurd ⟨by omega, by omega⟩ hp
section
variable {A : Ar} {f : Nat → Mk'} {R : Tl}
theorem rk_iff (h : RkR A f R) {p : Int} (p0 : 0 ≤ p) (p1 : p < (A.length : Int)) (k : Nat) : f k p = true ↔ ∃ r : Int, R p = some r ∧ r ≤ (k : Int) := by
  obtain ⟨ro, h1, h2⟩ := h.is p p0 p1
  cases ro with
  | none =>
    rw [h2]
    constructor
    · intro e
      rw [h1 k] at e
      cases e
    · rintro ⟨r, e, _⟩
      cases e
  | some r =>
    rw [h2]
    constructor
    · intro e
      refine ⟨(r : Int), rfl, ?_⟩
      rcases Nat.lt_or_ge k r with hk | hk
      · rw [h1.2 k hk] at e
        cases e
      · exact Int.ofNat_le.mpr hk
    · rintro ⟨r', e, hr⟩
      have e : (r : Int) = r' := Option.some.inj e
      exact up_le (fun k p e => h.up k p e) (show r ≤ k by omega) h1.1
theorem rk_lt (h : RkR A f R) {p : Int} {r : Int} (e : R p = some r) : 0 ≤ r ∧ r < (A.length : Int) ∧ 0 ≤ p ∧ p < (A.length : Int) := by
  by_cases hp : 0 ≤ p ∧ p < (A.length : Int)
  · obtain ⟨ro, h1, h2⟩ := h.is p hp.1 hp.2
    rw [e] at h2
    cases ro with
    | none => cases h2
    | some r' =>
      have h3 : r = (r' : Int) := Option.some.inj h2
      have := h.few p r' hp.1 hp.2 h1
      exact ⟨by omega, by omega, hp⟩
  · rw [h.out p hp] at e
    cases e
theorem rkO_le (h : RkR A f R) {s : Int} (s0 : -1 ≤ s) (s1 : s < (A.length : Int)) {k : Nat} (hk : k < A.length) : f k s = true ↔ rkO R (A.length : Int) s ≤ (k : Int) := by
  unfold rkO
  by_cases hs : s = -1
  · subst hs
    rw [h.fo, h.out (-1) (by omega)]
    constructor
    · intro e
      cases e
    · intro e
      have e : (A.length : Int) ≤ (k : Int) := e
      omega
  · rw [rk_iff h (by omega) s1]
    constructor
    · rintro ⟨r, e, hr⟩
      rw [e]
      exact hr
    · intro e
      cases hR : R s with
      | none =>
        rw [hR] at e
        have e : (A.length : Int) ≤ (k : Int) := e
        omega
      | some r =>
        rw [hR] at e
        exact ⟨r, rfl, e⟩
theorem rkO_nn (h : RkR A f R) (s : Int) : 0 ≤ rkO R (A.length : Int) s := by
  unfold rkO
  cases e : R s with
  | none =>
    show (0 : Int) ≤ (A.length : Int)
    omega
  | some r => exact (rk_lt h e).1
theorem nd_iff (hG : ArG A) (h : RkR A f R) {p : Int} (p0 : 0 ≤ p) {os : Pos'} (ho : A[p.toNat]? = some os) {m : Int} (hm : NdAt R (A.length : Int) os m) : 0 ≤ m ∧ ∀ k : Nat, k < A.length → (NdK A f p k ↔ m ≤ (k : Int)) := by
  by_cases hos : os = []
  · have e := hm.1 hos
    subst hos
    refine ⟨by omega, fun k hk => ⟨?_, fun h => by omega⟩⟩
    rintro ⟨i, o, ⟨os', h1, h2⟩, _⟩
    rw [ho] at h1
    cases h1
    simp at h2
  · obtain ⟨⟨i, o, h1, h2⟩, h3⟩ := hm.2 hos
    have good : ∀ (i : Nat) (o : Opt), os[i]? = some o → ∀ s ∈ o, -1 ≤ s ∧ s < (A.length : Int) := fun i o hi s hs => by
      have hO : OptAt A p.toNat i o := ⟨os, ho, hi⟩
      exact (hO.good hG).1.mem s hs
    refine ⟨?_, fun k hk => ⟨?_, fun hmk => ⟨i, o, ⟨os, ho, h1⟩, fun s hs => ?_⟩⟩⟩
    · have hO : OptAt A p.toNat i o := ⟨os, ho, h1⟩
      obtain ⟨s, hs⟩ := List.exists_mem_of_ne_nil _ (hO.good hG).1.ne
      have := h2 s hs
      have := rkO_nn h s
      omega
    · rintro ⟨i', o', ⟨os', h4, h5⟩, hall⟩
      rw [ho] at h4
      cases h4
      obtain ⟨s, hs, hms⟩ := h3 i' o' h5
      have := (rkO_le h (good i' o' h5 s hs).1 (good i' o' h5 s hs).2 hk).mp (hall s hs)
      omega
    · have := h2 s hs
      exact (rkO_le h (good i o h1 s hs).1 (good i o h1 s hs).2 hk).mpr (by omega)
theorem lsr_cm (h : RkR A f R) (b : Tl) {beat : Nat} {p : Int} (p0 : 0 ≤ p) (p1 : p < (A.length : Int)) : Lsr f beat b (cmT b R (beat : Int)) p := by
  intro k
  rw [rk_iff h p0 p1 k]
  unfold cmT mxT
  cases hR : R p with
  | none =>
    constructor
    · exact .inl
    · rintro (h | ⟨_, r, e, _⟩)
      · exact h
      · cases e
  | some r =>
    cases hb : b p with
    | none =>
      constructor
      · rintro ⟨w, e, hw⟩
        have e := Option.some.inj e
        right
        split at e
        · exact ⟨by omega, r, rfl, by omega⟩
        · exact ⟨by omega, r, rfl, by omega⟩
      · rintro (⟨w, e, _⟩ | ⟨hk, r', e, hr⟩)
        · cases e
        · cases e
          refine ⟨_, rfl, ?_⟩
          split <;> omega
    | some w0 =>
      constructor
      · rintro ⟨w, e, hw⟩
        have e : (if (if r > (beat : Int) then r else (beat : Int)) < w0 then some (if r > (beat : Int) then r else (beat : Int)) else some w0) = some w := e
        by_cases h1 : (if r > (beat : Int) then r else (beat : Int)) < w0
        · rw [if_pos h1] at e
          have e := Option.some.inj e
          right
          split at e
          · exact ⟨by omega, r, rfl, by omega⟩
          · exact ⟨by omega, r, rfl, by omega⟩
        · rw [if_neg h1] at e
          have e := Option.some.inj e
          exact .inl ⟨w0, rfl, by omega⟩
      · intro hh
        show ∃ w, (if (if r > (beat : Int) then r else (beat : Int)) < w0 then some (if r > (beat : Int) then r else (beat : Int)) else some w0) = some w ∧ w ≤ (k : Int)
        by_cases h1 : (if r > (beat : Int) then r else (beat : Int)) < w0
        · rw [if_pos h1]
          refine ⟨_, rfl, ?_⟩
          rcases hh with ⟨w, e, hw⟩ | ⟨hk, r', e, hr⟩
          · cases e
            omega
          · cases e
            split <;> omega
        · rw [if_neg h1]
          refine ⟨_, rfl, ?_⟩
          rcases hh with ⟨w, e, hw⟩ | ⟨hk, r', e, hr⟩
          · cases e
            exact hw
          · cases e
            split at h1 <;> omega
theorem cm_rng (h : RkR A f R) {b : Tl} {beat lim : Nat} (hbl : beat < lim) (hln : lim ≤ A.length) (hb : ∀ p w, b p = some w → 0 ≤ p ∧ p < (A.length : Int) ∧ (lim : Int) ≤ w ∧ w < (A.length : Int)) : ∀ p w, cmT b R (beat : Int) p = some w → 0 ≤ p ∧ p < (A.length : Int) ∧ (beat : Int) ≤ w ∧ w < (A.length : Int) := fun p w e => by
  unfold cmT mxT at e
  cases hR : R p with
  | none =>
    rw [hR] at e
    obtain ⟨h1, h2, h3, h4⟩ := hb p w e
    exact ⟨h1, h2, by omega, h4⟩
  | some r =>
    obtain ⟨r0, r1, p0, p1⟩ := rk_lt h hR
    rw [hR] at e
    cases hbp : b p with
    | none =>
      rw [hbp] at e
      have e := Option.some.inj e
      refine ⟨p0, p1, ?_, ?_⟩ <;> split at e <;> omega
    | some w0 =>
      rw [hbp] at e
      obtain ⟨_, _, h3, h4⟩ := hb p w0 hbp
      have e : (if (if r > (beat : Int) then r else (beat : Int)) < w0 then some (if r > (beat : Int) then r else (beat : Int)) else some w0) = some w := e
      by_cases h1 : (if r > (beat : Int) then r else (beat : Int)) < w0
      · rw [if_pos h1] at e
        have e := Option.some.inj e
        refine ⟨p0, p1, ?_, ?_⟩ <;> split at e <;> omega
      · rw [if_neg h1] at e
        have e := Option.some.inj e
        exact ⟨p0, p1, by omega, by omega⟩
theorem Ch.congr {hm : List Int} {S S' : Int → Prop} {lim : Nat} {b : Tl} (C : Ch A hm S lim b) (h : ∀ p, S p ↔ S' p) : Ch A hm S' lim b := by
  have : S = S' := funext fun p => propext (h p)
  rw [← this]
  exact C
/-- the ranks of _ranks_to are such -/
theorem rkR_of (hG : ArG A) {hm ks : List Int} (hhm : ∀ x ∈ hm, 0 ≤ x ∧ x < (A.length : Int)) (hks : ∀ p ∈ ks, p ∈ hm) (hin : InA A A.length) (hR : ∀ p : Int, 0 ≤ p → p < (A.length : Int) → ∃ ro : Option Nat, IsRk (rkF A hm ks) p ro ∧ R p = ro.map fun r : Nat => (r : Int)) (hout : ∀ p : Int, ¬ (0 ≤ p ∧ p < (A.length : Int)) → R p = none) :
    RkR A (rkF A hm ks) R ∧ Rds A hm (fun p => p ∈ ks) (rkF A hm ks) := by
  have ham : ∀ p, p ∈ ((psA A.length).filter fun p => !decide (p ∈ hm)) ↔ 0 ≤ p ∧ p < (A.length : Int) ∧ p ∉ hm := fun p => by
    rw [List.mem_filter, psA_mem]
    simp [and_assoc]
  have D0 := mr_rds (B := fun p => decide (p ∈ ks)) hG ham
  have D : Rds A hm (fun p => p ∈ ks) (rkF A hm ks) := by
    have e : (fun p => decide (p ∈ ks) = true) = fun p => p ∈ ks := funext fun p => propext decide_eq_true_iff
    rw [e] at D0
    exact D0
  refine ⟨⟨hR, hout, fun k p e => D.up k p e, fun k => D.out k, fun p r p0 p1 hr => ?_⟩, D⟩
  obtain ⟨n, hn⟩ : ∃ n, A.length = n + 1 := ⟨A.length - 1, by omega⟩
  have hst := mr_stop (side := 0) (am := (psA A.length).filter fun p => !decide (p ∈ hm)) (M := mkO false fun p => decide (p ∈ ks)) hin (K := n) fun q h0 h1 => by
    rcases Int.lt_or_le q 0 with hq | hq
    · rw [show q = -1 by omega]
      have e1 := D0.out (n + 1)
      have e2 := D0.out n
      rw [e1, e2]
    · cases h : mr A 0 ((psA A.length).filter fun p => !decide (p ∈ hm)) (mkO false fun p => decide (p ∈ ks)) (n + 1) q with
      | true => exact (mr_few hG ham hhm (fun p hp => hks p (of_decide_eq_true hp)) hn hq h1 h).symm
      | false =>
        cases h2 : mr A 0 ((psA A.length).filter fun p => !decide (p ∈ hm)) (mkO false fun p => decide (p ∈ ks)) n q with
        | false => rfl
        | true =>
          rw [mr_up h2] at h
          cases h
  rcases Nat.lt_or_ge r (n + 1) with h | h
  · omega
  · have h1 : mr A 0 ((psA A.length).filter fun p => !decide (p ∈ hm)) (mkO false fun p => decide (p ∈ ks)) r p = true := hr.1
    rw [hst r (by omega) p (by omega) p1] at h1
    have h2 : mr A 0 ((psA A.length).filter fun p => !decide (p ∈ hm)) (mkO false fun p => decide (p ∈ ks)) n p = false := hr.2 n (by omega)
    rw [h1] at h2
    cases h2
end
end NL

set_option maxHeartbeats 4000000
namespace NL
open PySem PySem.Spec PyProof.Rows L2
/-! ### least_beats -/
theorem dc_it {J : It} {n : Nat} {G : Hp → Prop} {Y : Nat → Hp → V → Hp → Prop} (w : Walk J n G Y) {g : TG} {tt : TT} {tk tv : TE} {vs : List Nat} {σ : L2.St} {H1 : Hp} {D : Addr} {Qd : Hp → Prop} (Pv : Nat → Hp → Prop) (h0 : Pv 0 (upd H1 D (.dK []))) (hq : ∀ i H, i ≤ n → Pv i H → G H)
    (hs : ∀ (i : Nat) (x : V) (H H' : Hp), i < n → Pv i H → Y i H x H' → g x (wipe σ vs) H' fun σ2 H2 => wipe σ2 vs = wipe σ vs ∧ tt σ2 H2 fun c H3 =>
      if c = true then tk σ2 H3 fun y1 H4 => tv σ2 H4 fun z H5 => ∃ kvs k, y1 = kV k ∧ H5 D = some (.dK kvs) ∧ kvs.length < sizeLine ∧ Pv (i + 1) (upd H5 D (.dK (putK kvs k z))) else Pv (i + 1) H3) (hd : ∀ H, Pv n H → Qd H) :
    ∃ W : Nat → Nat → Hp → Prop, (∃ m, W 0 m (upd H1 D (.dK []))) ∧ ∀ i m H, W i m H →
      (J.stop i H ∧ Qd H) ∨ (J.go i H ∧ ∃ Nx : Hp → Prop, (∀ H', Nx H' → ∃ m', m' < m ∧ W (i + 1) m' H') ∧ ∀ x H', J.yld i H x H' → g x (wipe σ vs) H' fun σ2 H2 => wipe σ2 vs = wipe σ vs ∧ tt σ2 H2 fun c H3 =>
        if c = true then tk σ2 H3 fun y1 H4 => tv σ2 H4 fun z H5 => ∃ kvs k, y1 = kV k ∧ H5 D = some (.dK kvs) ∧ kvs.length < sizeLine ∧ Nx (upd H5 D (.dK (putK kvs k z))) else Nx H3) := by
  refine ⟨fun i m H => m + i = n ∧ Pv i H, ⟨n, rfl, h0⟩, ?_⟩
  rintro i m H ⟨hi, p⟩
  have hG := hq i H (by omega) p
  by_cases lt : i < n
  · exact .inr ⟨w.goes i H lt hG, Pv (i + 1), fun H' p' => ⟨m - 1, by omega, by omega, p'⟩, fun v H' y => hs i v H H' lt p (w.yields i H v H' lt hG y)⟩
  · have e : i = n := by omega
    subst e
    exact .inl ⟨w.stops H hG, hd H p⟩
theorem seq_pi {K : PySem.W.Frag} {a : Addr} {xs : List V} {H : Hp} {tl : TE} {σ : L2.St} {R : It → Hp → Prop} (h : H a = some (.lst xs) ∨ H a = some (.tup xs)) (htl : ∀ C : V → Hp → Prop, C (.ref a) H → tl σ H C) (f : ∀ J : It, Walk J xs.length (fun H' => H' a = H a) (YAt xs) → R J H) : iSeq K tl σ H R := by
  refine htl _ ⟨a, rfl, ?_⟩
  rcases h with h | h
  · have w : Walk (Itl K a) xs.length (fun H => SqL K H a xs) (YAt xs) := walk_list
    exact .inl ⟨⟨_, sqd h⟩, f _ ⟨fun i H' hi g => w.goes i H' hi (sqd (by rw [g]; exact h)), fun H' g => w.stops H' (sqd (by rw [g]; exact h)), fun i H' x H2 hi g => w.yields i H' x H2 hi (sqd (by rw [g]; exact h))⟩⟩
  · have w : Walk (Itt K a) xs.length (fun H => SqT K H a xs) (YAt xs) := walk_tup
    exact .inr ⟨⟨_, sqt h⟩, f _ ⟨fun i H' hi g => w.goes i H' hi (sqt (by rw [g]; exact h)), fun H' g => w.stops H' (sqt (by rw [g]; exact h)), fun i H' x H2 hi g => w.yields i H' x H2 hi (sqt (by rw [g]; exact h))⟩⟩
theorem putK_mem {kvs : List (Key × V)} {k : Key} {v : V} {e : Key × V} (h : e ∈ putK kvs k v) : e = (k, v) ∨ e ∈ kvs := by
  unfold putK at h
  split at h
  · obtain ⟨q, hq, rfl⟩ := List.mem_map.mp h
    by_cases e : q.1 = k
    · rw [if_pos e]
      left
      rw [← e]
    · rw [if_neg e]
      exact .inr hq
  · rcases List.mem_append.mp h with h | h
    · exact .inr h
    · exact .inl (List.mem_singleton.mp h)
theorem valV_mem {k : Key} {v : V} : ∀ {kvs : List (Key × V)}, valV kvs k = some v → (k, v) ∈ kvs
  | [], h => by cases h
  | p :: r, h => by
    by_cases e : p.1 = k
    · rw [valV_pos e] at h
      obtain ⟨a, b⟩ := p
      cases h
      rw [← e]
      exact List.mem_cons_self ..
    · rw [valV_neg e] at h
      exact List.mem_cons_of_mem _ (valV_mem h)
theorem ints_of : ∀ (kvs : List (Key × V)), (∀ e ∈ kvs, ∃ n : Int, e.2 = V.int n) → ∃ ns : List Int, kvs.map (·.2) = ns.map V.int ∧ ∀ y : Int, y ∈ ns ↔ ∃ e ∈ kvs, e.2 = V.int y
  | [], _ => ⟨[], rfl, fun y => ⟨fun h => (by cases h), fun ⟨e, h, _⟩ => (by cases h)⟩⟩
  | p :: r, h => by
    obtain ⟨ns, h1, h2⟩ := ints_of r fun e he => h e (List.mem_cons_of_mem _ he)
    obtain ⟨n, hn⟩ := h p (List.mem_cons_self ..)
    refine ⟨n :: ns, by rw [List.map_cons, List.map_cons, hn, h1], fun y => ?_⟩
    rw [List.mem_cons, h2]
    constructor
    · rintro (e | ⟨e, he, h3⟩)
      · exact ⟨p, List.mem_cons_self .., by rw [hn, e]⟩
      · exact ⟨e, List.mem_cons_of_mem _ he, h3⟩
    · rintro ⟨e, he, h3⟩
      rcases List.mem_cons.mp he with he | he
      · left
        rw [he, hn] at h3
        exact (V.int.inj h3).symm
      · exact .inr ⟨e, he, h3⟩
theorem nd_uniq {R : Tl} {n : Int} {os : Pos'} {a b : Int} (ha : NdAt R n os a) (hb : NdAt R n os b) : a = b := by
  by_cases hos : os = []
  · rw [ha.1 hos, hb.1 hos]
  · obtain ⟨⟨i, o, h1, h2⟩, h3⟩ := ha.2 hos
    obtain ⟨⟨i', o', g1, g2⟩, g3⟩ := hb.2 hos
    obtain ⟨s, hs, hle⟩ := h3 i' o' g1
    obtain ⟨s', hs', hle'⟩ := g3 i o h1
    have := g2 s hs
    have := h2 s' hs'
    omega
theorem nd_fun (R : Tl) (n : Int) (A : Ar) : ∃ nd : Int → Int, ∀ p os m, A[p.toNat]? = some os → NdAt R n os m → m = nd p := by
  classical
  refine ⟨fun p => if h : ∃ m os, A[p.toNat]? = some os ∧ NdAt R n os m then Classical.choose h else 0, fun p os m h1 h2 => ?_⟩
  have h : ∃ m os, A[p.toNat]? = some os ∧ NdAt R n os m := ⟨m, os, h1, h2⟩
  show m = if h : ∃ m os, A[p.toNat]? = some os ∧ NdAt R n os m then Classical.choose h else 0
  rw [dif_pos h]
  obtain ⟨os', g1, g2⟩ := Classical.choose_spec h
  have g4 : os = os' := Option.some.inj (h1.symm.trans g1)
  subst g4
  exact nd_uniq h2 g2
theorem Sm.frame {P bl : Addr} {H H1 H2 : Hp} {o : L2.HO} (s : Sm P H H1) (hb : H bl = none) (hbP : bl ≠ P) (f : ∀ x o, x ≠ bl → H1 x = some o → H2 x = some o) (h2 : H2 bl = some o) : Sm P H H2 := by
  refine (s.put hb hbP (o := o)).trans (.of fun x o' h => ?_)
  by_cases e : x = bl
  · subst e
    rw [upd_same] at h
    cases h
    exact h2
  · rw [upd_ne e] at h
    exact f x o' e h
end NL

set_option maxHeartbeats 4000000
namespace NL
open PySem PySem.Spec PyProof.Rows L2
theorem gx_dcSeq {K : PySem.W.Frag} {a : Addr} {xs : List V} {g : TG} {tt : TT} {tk tv : TE} {vs : List Nat} {σ : L2.St} {H1 : Hp} {Qd : Addr → Hp → Prop} (h : H1 a = some (.lst xs) ∨ H1 a = some (.tup xs)) (Pv : Addr → Nat → Hp → Prop) (h0 : ∀ D, H1 D = none → Pv D 0 (upd H1 D (.dK []))) (hG : ∀ D i H, Pv D i H → H a = H1 a)
    (hs : ∀ D, H1 D = none → ∀ i x H, xs[i]? = some x → Pv D i H → g x (wipe σ vs) H fun σ2 H2 => wipe σ2 vs = wipe σ vs ∧ tt σ2 H2 fun c H3 =>
      if c = true then tk σ2 H3 fun y1 H4 => tv σ2 H4 fun z H5 => ∃ kvs k, y1 = kV k ∧ H5 D = some (.dK kvs) ∧ kvs.length < sizeLine ∧ Pv D (i + 1) (upd H5 D (.dK (putK kvs k z))) else Pv D (i + 1) H3) (hd : ∀ D H, H1 D = none → Pv D xs.length H → Qd D H) :
    ((∃ xs, SqL K H1 a xs) ∧ ∀ D, H1 D = none → ∃ W : Nat → Nat → Hp → Prop, (∃ m, W 0 m (upd H1 D (.dK []))) ∧ ∀ i m H, W i m H →
      ((Itl K a).stop i H ∧ Qd D H) ∨ ((Itl K a).go i H ∧ ∃ Nx : Hp → Prop, (∀ H', Nx H' → ∃ m', m' < m ∧ W (i + 1) m' H') ∧ ∀ x H', (Itl K a).yld i H x H' → g x (wipe σ vs) H' fun σ2 H2 => wipe σ2 vs = wipe σ vs ∧ tt σ2 H2 fun c H3 =>
        if c = true then tk σ2 H3 fun y1 H4 => tv σ2 H4 fun z H5 => ∃ kvs k, y1 = kV k ∧ H5 D = some (.dK kvs) ∧ kvs.length < sizeLine ∧ Nx (upd H5 D (.dK (putK kvs k z))) else Nx H3)) ∨
    ((∃ xs, SqT K H1 a xs) ∧ ∀ D, H1 D = none → ∃ W : Nat → Nat → Hp → Prop, (∃ m, W 0 m (upd H1 D (.dK []))) ∧ ∀ i m H, W i m H →
      ((Itt K a).stop i H ∧ Qd D H) ∨ ((Itt K a).go i H ∧ ∃ Nx : Hp → Prop, (∀ H', Nx H' → ∃ m', m' < m ∧ W (i + 1) m' H') ∧ ∀ x H', (Itt K a).yld i H x H' → g x (wipe σ vs) H' fun σ2 H2 => wipe σ2 vs = wipe σ vs ∧ tt σ2 H2 fun c H3 =>
        if c = true then tk σ2 H3 fun y1 H4 => tv σ2 H4 fun z H5 => ∃ kvs k, y1 = kV k ∧ H5 D = some (.dK kvs) ∧ kvs.length < sizeLine ∧ Nx (upd H5 D (.dK (putK kvs k z))) else Nx H3)) := by
  rcases h with h | h
  · have w : Walk (Itl K a) xs.length (fun H => SqL K H a xs) (YAt xs) := walk_list
    exact .inl ⟨⟨_, sqd h⟩, fun D hD => dc_it w (Pv D) (h0 D hD) (fun i H _ p => sqd (by rw [hG D i H p]; exact h)) (fun i x H H' _ p y => by
      obtain ⟨rfl, hx⟩ := y
      exact hs D hD i x _ hx p) (fun H p => hd D H hD p)⟩
  · have w : Walk (Itt K a) xs.length (fun H => SqT K H a xs) (YAt xs) := walk_tup
    exact .inr ⟨⟨_, sqt h⟩, fun D hD => dc_it w (Pv D) (h0 D hD) (fun i H _ p => sqt (by rw [hG D i H p]; exact h)) (fun i x H H' _ p y => by
      obtain ⟨rfl, hx⟩ := y
      exact hs D hD i x _ hx p) (fun H p => hd D H hD p)⟩
theorem gx_lcSeq {K : PySem.W.Frag} {a : Addr} {xs : List V} {g : TG} {tt : TT} {te : TE} {vs : List Nat} {σ : L2.St} {H1 : Hp} {Qd : Addr → Hp → Prop} (h : H1 a = some (.lst xs) ∨ H1 a = some (.tup xs)) (Pv : Addr → Nat → Hp → Prop) (h0 : ∀ D, H1 D = none → Pv D 0 (upd H1 D (.lst []))) (hG : ∀ D i H, Pv D i H → H a = H1 a)
    (hs : ∀ D, H1 D = none → ∀ i x H, xs[i]? = some x → Pv D i H → g x (wipe σ vs) H fun σ2 H2 => wipe σ2 vs = wipe σ vs ∧ tt σ2 H2 fun b H3 =>
      if b = true then te σ2 H3 fun y H4 => ∃ acc, H4 D = some (.lst acc) ∧ acc.length < sizeLine ∧ Pv D (i + 1) (upd H4 D (.lst (acc ++ [y]))) else Pv D (i + 1) H3) (hd : ∀ D H, H1 D = none → Pv D xs.length H → Qd D H) :
    ((∃ xs, SqL K H1 a xs) ∧ ∀ D, H1 D = none → ∃ W : Nat → Nat → Hp → Prop, (∃ m, W 0 m (upd H1 D (.lst []))) ∧ ∀ i m H, W i m H →
      ((Itl K a).stop i H ∧ Qd D H) ∨ ((Itl K a).go i H ∧ ∃ Nx : Hp → Prop, (∀ H', Nx H' → ∃ m', m' < m ∧ W (i + 1) m' H') ∧ ∀ x H', (Itl K a).yld i H x H' → g x (wipe σ vs) H' fun σ2 H2 => wipe σ2 vs = wipe σ vs ∧ tt σ2 H2 fun b H3 =>
        if b = true then te σ2 H3 fun y H4 => ∃ acc, H4 D = some (.lst acc) ∧ acc.length < sizeLine ∧ Nx (upd H4 D (.lst (acc ++ [y]))) else Nx H3)) ∨
    ((∃ xs, SqT K H1 a xs) ∧ ∀ D, H1 D = none → ∃ W : Nat → Nat → Hp → Prop, (∃ m, W 0 m (upd H1 D (.lst []))) ∧ ∀ i m H, W i m H →
      ((Itt K a).stop i H ∧ Qd D H) ∨ ((Itt K a).go i H ∧ ∃ Nx : Hp → Prop, (∀ H', Nx H' → ∃ m', m' < m ∧ W (i + 1) m' H') ∧ ∀ x H', (Itt K a).yld i H x H' → g x (wipe σ vs) H' fun σ2 H2 => wipe σ2 vs = wipe σ vs ∧ tt σ2 H2 fun b H3 =>
        if b = true then te σ2 H3 fun y H4 => ∃ acc, H4 D = some (.lst acc) ∧ acc.length < sizeLine ∧ Nx (upd H4 D (.lst (acc ++ [y]))) else Nx H3)) := by
  rcases h with h | h
  · exact .inl ⟨⟨_, sqd h⟩, fun D hD => lc_list (xs := xs) (Pv D) (h0 D hD) (fun i H _ p => sqd (by rw [hG D i H p]; exact h)) (hs D hD) (fun H p => hd D H hD p)⟩
  · exact .inr ⟨⟨_, sqt h⟩, fun D hD => lc_tup (xs := xs) (Pv D) (h0 D hD) (fun i H _ p => sqt (by rw [hG D i H p]; exact h)) (hs D hD) (fun H p => hd D H hD p)⟩
section
variable {P : Program} {w : World} {K : PySem.W.Frag} {mg : Str → Option Value} {base : Heap}
def spBeats (K : PySem.W.Frag) (Pt : Addr) : Sp := fun vs H Q _ => ∃ (v : V) (A : Ar) (hp : Addr) (hm : List Int), vs = [v, .ref hp] ∧ ArIn H A v ∧ ArG A ∧ H hp = some (.tup (hm.map V.int)) ∧ (∀ x ∈ hm, 0 ≤ x ∧ x < (A.length : Int)) ∧ hm.length ≤ 500 ∧ GxR.TabG H Pt ∧
  ∀ p b H', Sm Pt H H' → H p = none → H' p = some (.tup (tlV A.length b)) → (∀ k, k < A.length → ∀ p : Int, 0 ≤ p → p < (A.length : Int) → (Gk A hm k p (stA hm p) ↔ ∃ w, b p = some w ∧ w ≤ (k : Int))) → (∀ p w, b p = some w → 0 ≤ w ∧ w < (A.length : Int)) → Q (.ref p) H'
theorem ok_least_beats (T : Txt K mg) {c Pt : Addr} (TB : GxR.TabB base mg c Pt) (hc : T.dforces.code = .ref c) : FnOk P w K mg base CX0 7 T.aleast_beats T.dleast_beats Pleast_beats (spBeats K Pt) := by
  have G_need := ok_need (P := P) (w := w) (base := base) T
  have G_take_lesser := ok_take_lesser (P := P) (w := w) (base := base) T
  have G_ranks_to := ok_ranks_to (P := P) (w := w) T TB hc
  refine T.Fleast_beats.ok scleast_beats (fun vs H Q E h => ?_) (fun cdv A outer s H vs Q E hr h => ?_)
  · obtain ⟨v, A, hp, hm, rfl, _⟩ := h
    rfl
  obtain ⟨v, A0, hp, hm, rfl, hA, hG, hh, hhm, hhl, hT, q⟩ := h
  obtain ⟨b0, zs, rfl, e0, hzs⟩ := id hA
  have hzl := hzs.1
  have hn4 := hG.1
  have hin : InA A0 A0.length := fun os ho o hoo p hp => by
    have := ((hG.2 os ho).2 o hoo).mem p hp
    exact this
  refine ⟨_, (pss_cons (ps_set (i := 2) scleast_beats.nd rfl (Or.inl rfl) (pe_op op_rep (pe_lst (pa_cons pe_non pa_nil)) (pe_callB call_len_seq (by rfl) T.z_len PySem.boot_len (pa_cons (pv 0) pa_nil))))
    (pss_cons (ps_set (i := 3) scleast_beats.nd rfl (Or.inr rfl) (pe_callB call_len_seq (by rfl) T.z_len PySem.boot_len (pa_cons (pv 0) pa_nil)))
    (pss_cons (ps_set (i := 4) scleast_beats.nd rfl (Or.inl rfl) (pv 1))
    (pss_cons (ps_while PassesOwn.never (pt_truth (pv 4) (fun _ => rfl))
    (pss_cons (ps_set (i := 5) scleast_beats.nd rfl (Or.inr rfl) (pe_call G_ranks_to (hr.mono (by omega)) (by rfl) T.m_ranks_to T.F_ranks_to.kp T.b_ranks_to .nil pass0 (pa_cons (pv 0) (pa_cons (pv 1) (pa_cons (pv 4) pa_nil)))))
    (pss_cons (ps_set (i := 6) scleast_beats.nd rfl (Or.inr rfl) (pe_dc (own := [("at", 7)]) (g := (gName 7)) (tt := tYes) rfl scleast_beats.nd (pi_seq (pv 4)) (blkOk_by (N := Nleast_beats) (sc := defScope sleast_beats) (by decide +kernel)) (fun _ _ _ _ _ => (pg_name (i := 7) scleast_beats.nd rfl (Or.inl rfl))) (fun _ _ _ _ _ => pts_nil) (fun _ _ _ _ _ => (pv 7)) (fun _ _ _ _ _ => (pe_call G_need (hr.mono (by omega)) (by rfl) T.m_need T.F_need.kp T.b_need .nil pass0 (pa_cons (pe_ix (ix_tupK (K := K) rfl) (pv 0) (pv 7) (fun _ _ => rfl)) (pa_cons (pv 5) (pa_cons (pe_callB (call_len_seqK (K := K) rfl) (by rfl) T.z_len PySem.boot_len (pa_cons (pv 0) pa_nil)) pa_nil)))))))
    (pss_cons (ps_set (i := 8) scleast_beats.nd rfl (Or.inl rfl) (pe_callB (cr_max rfl) (by rfl) T.z_max (by decide +kernel) (pa_cons (pe_listVals rfl (by rfl) T.z_list (pv 6)) pa_nil)))
    (C8.pss_cut (ps_if (pt_cmpR op_lt (pv 8) (pv 3) (nomark _))
    (pss_cons (ps_expr (pe_call G_take_lesser (hr.mono (by omega)) (by rfl) T.m_take_lesser T.F_take_lesser.kp T.b_take_lesser .nil pass0 (pa_cons (pv 2) (pa_cons (pv 5) (pa_cons (pv 8) pa_nil)))))
    (pss_one (ps_set (i := 3) scleast_beats.nd rfl (Or.inr rfl) (pv 8))))
    pss_nil)
    (pss_one (ps_setLc (i := 4) (own := [("at", 7)]) (g := (gName 7)) (tt := _) rfl scleast_beats.nd rfl rfl (sw_true rfl rfl rfl (by decide +kernel)) (pi_seq (pv 4)) (blkOk_by (N := Nleast_beats) (sc := defScope sleast_beats) (by decide +kernel)) (fun _ _ _ _ _ => (pg_name (i := 7) scleast_beats.nd rfl (Or.inl rfl))) (fun _ _ _ _ _ => (pts_one (pt_cmpR op_lt (pe_dget (hu_of hr) (pv 6) (pv 7) (fun _ _ => rfl)) (pv 3) (nomark _)))) (fun _ _ _ _ _ => (pv 7)))))))))
    (pss_one (ps_ret (pe_callTy call_tuple_of (by rfl) T.z_tuple (by decide +kernel) (pa_cons (pv 2) pa_nil)))))))), ?_⟩
  refine ⟨Nat.le_of_ble_eq_true rfl, fun l hl => ?_⟩
  obtain ⟨H1, e1, s1, k1⟩ := newH hl (.lst [V.non])
  rw [e1]
  refine ⟨_, rfl, b0, _, rfl, .inr (sqt (s1 _ _ e0)), l, _, _, rfl, rfl, k1, by omega, by omega, big (by rw [List.length_singleton]; omega), fun bl hbl => ?_⟩
  obtain ⟨H2, e2, s2, k2⟩ := newH hbl (.lst (List.replicate ((zs.length : Nat) : Int).toNat [V.non]).flatten)
  rw [e2]
  have s12 := s1.trans s2
  have hblH : H bl = none := s1.free hbl
  have hblP : bl ≠ Pt := TabG.ne0 hT hblH
  have hrep : (List.replicate ((zs.length : Nat) : Int).toNat [V.non]).flatten = tlV A0.length fun _ => none := by
    rw [show ((zs.length : Nat) : Int).toNat = A0.length by omega]
    unfold tlV
    rw [show (fun k : Nat => ovV none) = fun _ => V.non from rfl, List.map_const', List.length_range]
    induction A0.length with
    | zero => rfl
    | succ n ih => rw [List.replicate_succ, List.replicate_succ, List.flatten_cons, ih]; rfl
  rw [hrep] at k2
  refine ⟨_, rfl, b0, _, rfl, .inr (sqt (s12 _ _ e0)), ?_⟩
  refine ⟨_, rfl, ?_⟩
  have hphb : hp ≠ bl := fun e => by
    rw [e, hblH] at hh
    cases hh
  refine ⟨fun m σ H' => ∃ (lim : Nat) (b : Tl) (kp : Addr) (ks : List Int) (y5 y6 y7 y8 : Option V), σ = [some (.ref b0), some (.ref hp), some (.ref bl), some (.int (lim : Nat)), some (.ref kp), y5, y6, y7, y8] ∧ Sm Pt H H' ∧ H' bl = some (.lst (tlV A0.length b)) ∧ kp ≠ bl ∧ (H' kp = some (.lst (ks.map V.int)) ∨ H' kp = some (.tup (ks.map V.int))) ∧ ks.length ≤ 500 ∧ Ch A0 hm (fun p => p ∈ ks) lim b ∧ (∀ p w, b p = some w → 0 ≤ p ∧ p < (A0.length : Int) ∧ (lim : Int) ≤ w ∧ w < (A0.length : Int)) ∧ m = ks.length, ⟨_, A0.length, fun _ => none, hp, hm, _, _, _, _, by rw [← hzl]; rfl, .of s12, k2, hphb, .inr (s12 _ _ hh), hhl, ch_start hhm, fun p w e => (by cases e), rfl⟩, ?_⟩
  rintro m σ H3 ⟨lim, b, kp, ks, y5, y6, y7, y8, rfl, s3, kb3, hkbl, hkp, hkl, C, hb, rfl⟩
  refine ⟨_, rfl, !(ks.map V.int).isEmpty, hkp.elim (fun h => .inl ⟨_, sqd h, rfl⟩) (fun h => .inr (.inl ⟨_, sqt h, rfl⟩)), ?_⟩
  by_cases hks : ks = []
  · subst hks
    refine ifF rfl ?_
    refine ⟨_, rfl, bl, _, rfl, .inl ⟨sqd kb3, fun l hl => ?_⟩⟩
    refine q l b _ (s3.trans (.of (same_new hl _))) (s3.dom _ hl) upd_same (fun k hk p p0 p1 => C.end_ hG (fun p hp => by cases hp) k hk p p0 p1) fun p w e => ?_
    obtain ⟨_, _, h3, h4⟩ := hb p w e
    exact ⟨by omega, h4⟩
  have hkt : (!(ks.map V.int).isEmpty) = true := by
    cases ks with
    | nil => exact absurd rfl hks
    | cons a r => rfl
  rw [hkt]
  refine ifT rfl ?_
  have hsub : ∀ p ∈ ks, p ∈ hm ∧ 0 ≤ p ∧ p < (A0.length : Int) := fun p hp => C.sub p hp
  have hln := C.ln
  refine ⟨_, fun σ' H' h => h, ?_⟩
  refine ⟨_, rfl, _, rfl, _, rfl, .ref b0, A0, hp, kp, hm, ks, rfl, (ArQ.of hA).sm s3, by omega, hin, s3.tup hh, hkp, hkl, fun p hp => (hsub p hp).2, s3.tb hT, fun D kvs R H4 s4 hD kD hDR hky hrk => ?_⟩
  have s04 := s3.trans s4
  obtain ⟨RK, RD⟩ := rkR_of (R := R) hG hhm (fun p hp => (hsub p hp).1) hin hrk (fun p hp => dk_out hDR hky hp)
  obtain ⟨nd, hnd⟩ := nd_fun R (A0.length : Int) A0
  have kp4 : H4 kp = some (.lst (ks.map V.int)) ∨ H4 kp = some (.tup (ks.map V.int)) := hkp.elim (fun h => .inl (s4.lst h)) (fun h => .inr (s4.tup h))
  have e4 := s04.tup e0
  have kbl4 : bl ≠ Pt := hblP
  have hb4 := s4.lst kb3
  refine ⟨_, rfl, kp, rfl, ?_⟩
  refine gx_dcSeq (K := K) (a := kp) (xs := ks.map V.int) kp4 (fun N (j : Nat) (H' : Hp) => Same H4 H' ∧ ∃ kvs' : List (Key × V), H' N = some (.dK kvs') ∧ kvs'.length ≤ j ∧ (∀ e ∈ kvs', ∃ p, p ∈ ks ∧ e = (Sum.inl p, V.int (nd p))) ∧ (∀ p ∈ ks.take j, valV kvs' (Sum.inl p : Key) = some (V.int (nd p))) ∧ ∀ p ∈ ks.take j, ∃ os, A0[p.toNat]? = some os ∧ NdAt R (A0.length : Int) os (nd p)) (fun N hN => ?_) (fun N i H' p => ?_) (fun N hN j x H5 hx p => ?_) (fun N H5 hN p => ?_)
  · exact ⟨same_new hN _, [], upd_same, Nat.le_refl _, fun e h => (by cases h), fun p h => (by rw [List.take_zero] at h; cases h), fun p h => (by rw [List.take_zero] at h; cases h)⟩
  · rcases kp4 with h | h
    · rw [p.1 _ _ h, h]
    · rw [p.1 _ _ h, h]
  · obtain ⟨s5, kvs', k5, hl5, hm5, hv5, hn5⟩ := p
    rw [List.getElem?_map] at hx
    obtain ⟨p, hp, rfl⟩ := Option.map_eq_some_iff.mp hx
    have hpm := List.mem_of_getElem? hp
    have hjl := (List.getElem?_eq_some_iff.mp hp).1
    obtain ⟨_, p0, p1⟩ := hsub p hpm
    obtain ⟨os, v, hos, hat, hpos⟩ := hzs.atI p0 p1
    have hosm := List.mem_of_getElem? hos
    have hPG := hG.2 os hosm
    have s05 := s04.trans (.of s5)
    have htk : ks.take (j + 1) = ks.take j ++ [p] := by rw [List.take_add_one, hp]; rfl
    refine ⟨rfl, yes_if ?_⟩
    refine ⟨_, rfl, _, rfl, _, rfl, b0, _, _, _, rfl, rfl, sqt (s5 _ _ e4), hat, _, rfl, _, rfl, b0, _, rfl, .inr (sqt (s5 _ _ e4)), v, D, _, os, kvs, R, rfl, PosIn.tp (fun _ _ e => s05.tup e) hpos, by have := hPG.1; omega, fun o ho => ⟨(hPG.2 o ho).ne, by have := (hPG.2 o ho).len; omega⟩, s5 _ _ kD, hDR, fun m H6 s6 hm1 hm2 => ?_⟩
    rw [hzl] at hm1 hm2
    have hnda : NdAt R (A0.length : Int) os m := ⟨hm1, hm2⟩
    have hmnd := hnd p os m hos hnda
    subst hmnd
    refine ⟨kvs', Sum.inl p, rfl, s6 _ _ k5, big' (by omega), same_put (s5.trans s6) hN, putK kvs' (Sum.inl p) (V.int (nd p)), upd_same, by have := putK_len' kvs' (Sum.inl p : Key) (V.int (nd p)); omega, fun e he => ?_, fun x hx => ?_, fun x hx => ?_⟩
    · rcases putK_mem he with h | h
      · exact ⟨p, hpm, h⟩
      · exact hm5 e h
    · by_cases hxp : x = p
      · rw [hxp, valV_put, if_pos rfl]
      · rw [valV_put, if_neg (fun e => hxp (by cases e; rfl))]
        rw [htk] at hx
        rcases List.mem_append.mp hx with h | h
        · exact hv5 x h
        · exact absurd (List.mem_singleton.mp h) hxp
    · rw [htk] at hx
      rcases List.mem_append.mp hx with h | h
      · exact hn5 x h
      · rw [List.mem_singleton.mp h]
        exact ⟨os, hos, hnda⟩
  obtain ⟨s5, kvs', k5, hl5, hm5, hv5, hn5⟩ := p
  rw [List.length_map] at hl5 hv5 hn5
  rw [List.take_length] at hv5 hn5
  obtain ⟨ns, hns, hnm⟩ := ints_of kvs' fun e he => by
    obtain ⟨p, _, e1⟩ := hm5 e he
    exact ⟨nd p, by rw [e1]⟩
  have hns1 : ∀ p ∈ ks, nd p ∈ ns := fun p hp => (hnm _).mpr ⟨_, valV_mem (hv5 p hp), rfl⟩
  have hns2 : ∀ y ∈ ns, ∃ p ∈ ks, y = nd p := fun y hy => by
    obtain ⟨e, he, hy2⟩ := (hnm y).mp hy
    obtain ⟨p, hp, e1⟩ := hm5 e he
    rw [e1] at hy2
    exact ⟨p, hp, (V.int.inj hy2).symm⟩
  have hnsp : 0 < ns.length := by
    obtain ⟨a, ha⟩ := List.exists_mem_of_ne_nil _ hks
    exact List.length_pos_of_mem (hns1 a ha)
  have hND : ∀ p ∈ ks, 0 ≤ nd p ∧ ∀ k : Nat, k < A0.length → (NdK A0 (rkF A0 hm ks) p k ↔ nd p ≤ (k : Int)) := fun p hp => by
    obtain ⟨os, h1, h2⟩ := hn5 p hp
    exact nd_iff hG RK (hsub p hp).2.1 h1 h2
  refine ⟨_, rfl, N, kvs', rfl, k5, fun vl hvl => ?_⟩
  rw [hns]
  obtain ⟨H6, e6, s6, k6⟩ := newH hvl (.lst (ns.map V.int))
  rw [e6]
  refine ⟨vl, ns, rfl, sqd k6, hnsp, fun beat hbm hbmax => ?_⟩
  obtain ⟨pb, hpb, hbe⟩ := hns2 beat hbm
  have hb0 : 0 ≤ beat := by rw [hbe]; exact (hND pb hpb).1
  obtain ⟨bt, rfl⟩ : ∃ bt : Nat, beat = (bt : Int) := ⟨beat.toNat, by omega⟩
  have hmax : ∀ p ∈ ks, nd p ≤ (bt : Int) := fun p hp => hbmax _ (hns1 p hp)
  have s46 := s5.trans s6
  have s06 := s04.trans (.of s46)
  have kbl6 := s46 _ _ hb4
  have kN6 := s6 _ _ k5
  have kp6 : H6 kp = some (.lst (ks.map V.int)) ∨ H6 kp = some (.tup (ks.map V.int)) := kp4.elim (fun h => .inl (s46 _ _ h)) (fun h => .inr (s46 _ _ h))
  have hNbl : N ≠ bl := fun e => by rw [e, hb4] at hN; cases hN
  refine ⟨fun σ H' => ∃ (lim' : Nat) (b' : Tl), σ = [some (.ref b0), some (.ref hp), some (.ref bl), some (.int (lim' : Nat)), some (.ref kp), some (.ref D), some (.ref N), y7, some (.int (bt : Nat))] ∧ Sm Pt H H' ∧ (H' kp = some (.lst (ks.map V.int)) ∨ H' kp = some (.tup (ks.map V.int))) ∧ H' N = some (.dK kvs') ∧ H' bl = some (.lst (tlV A0.length b')) ∧ Ch A0 hm (fun p => p ∈ ks ∧ ∃ k, k < lim' ∧ NdK A0 (rkF A0 hm ks) p k) lim' b' ∧ (∀ p w, b' p = some w → 0 ≤ p ∧ p < (A0.length : Int) ∧ (lim' : Int) ≤ w ∧ w < (A0.length : Int)) ∧ lim' ≤ bt ∧ lim' ≤ A0.length, ?_, ?_⟩
  · refine ⟨_, rfl, _, rfl, _, _, rfl, rfl, _, rfl, ?_⟩
    refine ite2 (fun z => ?_) (fun z => ?_)
    · have hbl : bt < lim := by have := of_decide_eq_true z; omega
      refine ⟨_, rfl, _, rfl, _, rfl, bl, D, _, A0.length, b, R, kvs, rfl, kbl6, s46 _ _ kD, hDR, hky, fun H7 f7 k7 => ?_⟩
      refine ⟨_, rfl, bt, cmT b R (bt : Int), rfl, Sm.frame s06 hblH hblP f7 k7, kp6.elim (fun h => .inl (f7 _ _ hkbl h)) (fun h => .inr (f7 _ _ hkbl h)), f7 _ _ hNbl kN6, k7, ?_, cm_rng RK hbl C.ln hb, Nat.le_refl _, by omega⟩
      exact C.less hG RD hbl (fun p hp => ((hND p hp).2 bt (by omega)).mpr (hmax p hp)) (fun p p0 p1 => lsr_cm RK b p0 p1) (cm_rng RK hbl C.ln hb)
    · have hbl : lim ≤ bt := by
        have : ¬ ((bt : Int) < (lim : Int)) := fun h => z (decide_eq_true h)
        omega
      exact ⟨lim, b, rfl, s06, kp6, kN6, kbl6, C.drop hG RD, hb, hbl, hln⟩
  rintro σ H7 ⟨lim', b', rfl, s07, kp7, kN7, kbl7, C', hb', hlb, hln'⟩
  refine ⟨_, rfl, kp, rfl, ?_⟩
  refine gx_lcSeq (K := K) (a := kp) (xs := ks.map V.int) kp7 (fun M (j : Nat) (H' : Hp) => Same H7 H' ∧ H' M = some (.lst (((ks.take j).filter fun p => decide (nd p < (lim' : Int))).map V.int))) (fun M hM => ⟨same_new hM _, upd_same⟩) (fun M i H' p => ?_) (fun M hM j x H8 hx p => ?_) (fun M H8 hM p => ?_)
  · rcases kp7 with h | h
    · rw [p.1 _ _ h, h]
    · rw [p.1 _ _ h, h]
  · obtain ⟨s8, k8⟩ := p
    rw [List.getElem?_map] at hx
    obtain ⟨p, hp, rfl⟩ := Option.map_eq_some_iff.mp hx
    have hpm := List.mem_of_getElem? hp
    have hjl := (List.getElem?_eq_some_iff.mp hp).1
    have hfl := List.length_filter_le (fun p => decide (nd p < (lim' : Int))) (ks.take j)
    rw [List.length_take] at hfl
    have hnx : (ks.take (j + 1)).filter (fun p => decide (nd p < (lim' : Int))) = (ks.take j).filter (fun p => decide (nd p < (lim' : Int))) ++ if decide (nd p < (lim' : Int)) = true then [p] else [] := by
      rw [List.take_add_one, hp, List.filter_append]
      congr 1
      show List.filter _ [p] = _
      simp only [List.filter_cons, List.filter_nil]
    refine ⟨rfl, ?_⟩
    refine ⟨_, rfl, _, rfl, N, V.int (nd p), rfl, .inl ⟨kvs', Sum.inl p, .inl (s8 _ _ kN7), rfl, (hv5 p hpm).symm⟩, _, rfl, _, _, rfl, rfl, _, rfl, ?_⟩
    by_cases h : nd p < (lim' : Int)
    · refine ifT (decide_eq_true h) ?_
      refine ⟨_, rfl, _, k8, big' (by rw [List.length_map]; omega), same_put s8 hM, ?_⟩
      rw [upd_same, hnx, if_pos (decide_eq_true h), List.map_append]
      rfl
    · refine ifF (decide_eq_false h) ⟨s8, ?_⟩
      rw [hnx, if_neg (by rw [decide_eq_false h]; exact Bool.false_ne_true), List.append_nil]
      exact k8
  obtain ⟨s8, k8⟩ := p
  rw [List.length_map, List.take_length] at k8
  have hlt : (ks.filter fun p => decide (nd p < (lim' : Int))).length < ks.length := by
    refine Nat.lt_of_le_of_ne (List.length_filter_le _ _) fun e => ?_
    have e2 := List.filter_sublist.eq_of_length e
    rw [← e2] at hpb
    have := of_decide_eq_true (List.mem_filter.mp hpb).2
    omega
  have hMbl : M ≠ bl := fun e => by rw [e, kbl7] at hM; cases hM
  have hSeq : (fun p => p ∈ ks ∧ ∃ k, k < lim' ∧ NdK A0 (rkF A0 hm ks) p k) = fun p => p ∈ ks.filter fun p => decide (nd p < (lim' : Int)) := by
    funext p
    refine propext ⟨fun ⟨hp, k, hk, hN⟩ => List.mem_filter.mpr ⟨hp, decide_eq_true ?_⟩, fun hp => ?_⟩
    · have := ((hND p hp).2 k (by omega)).mp hN
      omega
    · obtain ⟨hp1, hp2⟩ := List.mem_filter.mp hp
      have hp2 := of_decide_eq_true hp2
      have h0 := (hND p hp1).1
      exact ⟨hp1, (nd p).toNat, by omega, ((hND p hp1).2 (nd p).toNat (by omega)).mpr (by omega)⟩
  rw [hSeq] at C'
  exact ⟨_, hlt, lim', b', M, ks.filter fun p => decide (nd p < (lim' : Int)), _, _, _, _, rfl, s07.trans (.of s8), s8 _ _ kbl7, hMbl, .inl k8, by omega, C', hb', rfl⟩
end
end NL

set_option maxHeartbeats 4000000
namespace NL
open PySem PySem.Spec PyProof.Rows L2
/-! ### _law_kept, as functions: the greatest fixed point by rounds over a list of pairs -/
def rngI (n : Nat) : List Int := (List.range n).map fun k : Nat => (0 : Int) + (k : Int)
theorem mem_rngI {n : Nat} {x : Int} : x ∈ rngI n ↔ 0 ≤ x ∧ x < (n : Int) := by
  constructor
  · intro h
    obtain ⟨k, hk, e⟩ := List.mem_map.mp h
    have := List.mem_range.mp hk
    omega
  · rintro ⟨h0, h1⟩
    exact List.mem_map.mpr ⟨x.toNat, List.mem_range.mpr (by omega), by omega⟩
theorem rngI_s (n : Nat) : rngI (n + 1) = rngI n ++ [(0 : Int) + (n : Int)] := by
  unfold rngI
  rw [List.range_succ, List.map_append]
  rfl
theorem nd_rngI (n : Nat) : (rngI n).Nodup := by
  induction n with
  | zero => exact List.nodup_nil
  | succ n ih =>
    rw [rngI_s]
    refine List.nodup_append.mpr ⟨ih, by simp, fun a ha b hb => ?_⟩
    have := mem_rngI.mp ha
    have := List.mem_singleton.mp hb
    omega
/-- the pairs of the position p among those with the first j counts -/
def rowP (hm : List Int) (p : Int) (j : Nat) : List (Int × Int) := ((rngI j).filter fun a => decide (decide (p ∈ hm) = decide (a = 0))).map fun a => (p, a)
def allP (hm : List Int) (m : Nat) : Nat → List (Int × Int)
  | 0 => []
  | n + 1 => allP hm m n ++ rowP hm ((0 : Int) + (n : Int)) m
theorem mem_rowP {hm : List Int} {p : Int} {j : Nat} {q : Int × Int} : q ∈ rowP hm p j ↔ q.1 = p ∧ 0 ≤ q.2 ∧ q.2 < (j : Int) ∧ (p ∈ hm ↔ q.2 = 0) := by
  unfold rowP
  constructor
  · intro h
    obtain ⟨a, ha, e⟩ := List.mem_map.mp h
    obtain ⟨h1, h2⟩ := List.mem_filter.mp ha
    have h3 := mem_rngI.mp h1
    have h4 := of_decide_eq_true h2
    rw [← e]
    exact ⟨rfl, h3.1, h3.2, decide_eq_decide.mp h4⟩
  · rintro ⟨h1, h2, h3, h4⟩
    exact List.mem_map.mpr ⟨q.2, List.mem_filter.mpr ⟨mem_rngI.mpr ⟨h2, h3⟩, decide_eq_true (decide_eq_decide.mpr h4)⟩, by rw [← h1]⟩
theorem mem_allP {hm : List Int} {m : Nat} {q : Int × Int} : ∀ {n : Nat}, q ∈ allP hm m n ↔ 0 ≤ q.1 ∧ q.1 < (n : Int) ∧ 0 ≤ q.2 ∧ q.2 < (m : Int) ∧ (q.1 ∈ hm ↔ q.2 = 0)
  | 0 => ⟨fun h => (by cases h), fun h => by omega⟩
  | n + 1 => by
    unfold allP
    rw [List.mem_append, mem_allP, mem_rowP]
    constructor
    · rintro (⟨h1, h2, h3, h4, h5⟩ | ⟨h1, h2, h3, h4⟩)
      · exact ⟨h1, by omega, h3, h4, h5⟩
      · exact ⟨by omega, by omega, h2, h3, by rw [h1]; exact h4⟩
    · rintro ⟨h1, h2, h3, h4, h5⟩
      by_cases h : q.1 = (n : Int)
      · exact .inr ⟨by omega, h3, h4, by rw [show (0 : Int) + (n : Int) = q.1 by omega]; exact h5⟩
      · exact .inl ⟨h1, by omega, h3, h4, h5⟩
theorem nd_rowP (hm : List Int) (p : Int) (j : Nat) : (rowP hm p j).Nodup := by
  unfold rowP
  have h1 := (nd_rngI j).sublist (List.filter_sublist (p := fun a => decide (decide (p ∈ hm) = decide (a = 0))))
  exact List.Pairwise.map _ (fun a b h e => h (by have := congrArg Prod.snd e; exact this)) h1
theorem nd_allP (hm : List Int) (m : Nat) : ∀ n, (allP hm m n).Nodup
  | 0 => List.nodup_nil
  | n + 1 => by
    unfold allP
    refine List.nodup_append.mpr ⟨nd_allP hm m n, nd_rowP _ _ _, fun a ha b hb e => ?_⟩
    have h1 := mem_allP.mp ha
    have h2 := mem_rowP.mp hb
    rw [e] at h1
    omega
theorem len_rowP (hm : List Int) (p : Int) (j : Nat) : (rowP hm p j).length ≤ j := by
  unfold rowP
  rw [List.length_map]
  have := List.length_filter_le (fun a => decide (decide (p ∈ hm) = decide (a = 0))) (rngI j)
  unfold rngI at this ⊢
  rw [List.length_map, List.length_range] at this
  exact this
theorem len_allP (hm : List Int) (m : Nat) : ∀ n, (allP hm m n).length ≤ n * m
  | 0 => Nat.zero_le _
  | n + 1 => by
    unfold allP
    rw [List.length_append, Nat.succ_mul]
    exact Nat.add_le_add (len_allP hm m n) (len_rowP _ _ _)
/-- a pair stays: it has an option all of whose successors are pairs that are left -/
def okP (A : Ar) (hm : List Int) (L : List (Int × Int)) (q : Int × Int) : Bool := (A.getD q.1.toNat []).any fun o => o.all fun s => !decide (s = -1) && decide ((s, (q.2 + 1) * (if s ∈ hm then 0 else 1)) ∈ L)
theorem nxA_mul (hm : List Int) (s a : Int) : (a + 1) * (if s ∈ hm then 0 else 1) = nxA hm s a := by
  unfold nxA
  split
  · rw [Int.mul_zero]
  · rw [Int.mul_one]
structure KpP (A : Ar) (hm : List Int) (k : Nat) (L : List (Int × Int)) : Prop where
  nd : L.Nodup
  vld : ∀ q ∈ L, Vld hm A.length k q.1 q.2
  all : ∀ p a, Gk A hm k p a → (p, a) ∈ L
theorem kpP_all (A : Ar) (hm : List Int) (k : Nat) : KpP A hm k (allP hm (k + 1) A.length) := by
  refine ⟨nd_allP _ _ _, fun q hq => ?_, fun p a h => ?_⟩
  · obtain ⟨h1, h2, h3, h4, h5⟩ := mem_allP.mp hq
    exact ⟨h1, h2, h3, by omega, h5⟩
  · obtain ⟨h1, _⟩ := gk_pst A hm k p a h
    exact mem_allP.mpr ⟨h1.p0, h1.p1, h1.a0, by have := h1.a1; show a < ((k + 1 : Nat) : Int); omega, h1.ha⟩
theorem kpP_step {A : Ar} {hm : List Int} {k : Nat} {L : List (Int × Int)} (h : KpP A hm k L) : KpP A hm k (L.filter (okP A hm L)) := by
  refine ⟨h.nd.sublist List.filter_sublist, fun q hq => h.vld q (List.mem_filter.mp hq).1, fun p a hp => List.mem_filter.mpr ⟨h.all p a hp, ?_⟩⟩
  obtain ⟨h1, i, o, ⟨os, ho1, ho2⟩, hall⟩ := gk_pst A hm k p a hp
  unfold okP
  refine List.any_eq_true.mpr ⟨o, ?_, List.all_eq_true.mpr fun s hs => ?_⟩
  · rw [List.getD_eq_getElem?_getD, ho1]
    exact List.mem_of_getElem? ho2
  · obtain ⟨h2, h3⟩ := hall s hs
    rw [decide_eq_false h2, nxA_mul, decide_eq_true (h.all _ _ h3)]
    rfl
theorem kpP_end {A : Ar} {hm : List Int} {k : Nat} {L : List (Int × Int)} (h : KpP A hm k L) (he : L.filter (okP A hm L) = L) {p a : Int} : (p, a) ∈ L ↔ Gk A hm k p a := by
  refine ⟨fun hp => ⟨fun p a => (p, a) ∈ L, fun p a hp => ⟨h.vld _ hp, ?_⟩, hp⟩, h.all p a⟩
  rw [← he] at hp
  have hok := (List.mem_filter.mp hp).2
  unfold okP at hok
  obtain ⟨o, ho, hall⟩ := List.any_eq_true.mp hok
  have hp0 := (h.vld _ (List.mem_filter.mp hp).1).p1
  have hp1 := (h.vld _ (List.mem_filter.mp hp).1).p0
  have hlt : p.toNat < A.length := by
    have hp0 : p < (A.length : Int) := hp0
    have hp1 : 0 ≤ p := hp1
    omega
  rw [List.getD_eq_getElem?_getD, List.getElem?_eq_getElem hlt] at ho
  have ho : o ∈ A[p.toNat] := ho
  obtain ⟨i, hi⟩ := List.getElem?_of_mem ho
  refine ⟨i, o, ⟨_, List.getElem?_eq_getElem hlt, hi⟩, fun s hs => ?_⟩
  have h2 := List.all_eq_true.mp hall s hs
  rw [Bool.and_eq_true, nxA_mul] at h2
  refine ⟨fun e => ?_, of_decide_eq_true h2.2⟩
  rw [decide_eq_true e] at h2
  cases h2.1
theorem kpP_less {A : Ar} {hm : List Int} {L : List (Int × Int)} (h : (L.filter (okP A hm L)).length ≠ L.length) : (L.filter (okP A hm L)).length < L.length := Nat.lt_of_le_of_ne (List.length_filter_le _ _) h
theorem kpP_same {A : Ar} {hm : List Int} {L : List (Int × Int)} (h : (L.filter (okP A hm L)).length = L.length) : L.filter (okP A hm L) = L := List.filter_sublist.eq_of_length h
end NL

set_option maxHeartbeats 8000000
namespace NL
open PySem PySem.Spec PyProof.Rows L2
theorem lay_intsR : ∀ l : List Int, PyData.canLayAll0 (l.map PyData.int) = true ∧ PyData.depthAll (l.map PyData.int) = 0
  | [] => ⟨rfl, rfl⟩
  | a :: r => by
    obtain ⟨h1, h2⟩ := lay_intsR r
    refine ⟨?_, ?_⟩
    · show (true && PyData.canLayAll0 (r.map PyData.int)) = true
      rw [h1]
      rfl
    · show max 0 (PyData.depthAll (r.map PyData.int)) = 0
      rw [h2]
      rfl
theorem dp_intsR {K : PySem.W.Frag} {H : Hp} : ∀ l : List Int, DpAll K H (l.map V.int) (l.map PyData.int)
  | [] => .nil
  | a :: r => .cons (.int a) (dp_intsR r)
theorem eqv_intsR : ∀ l m : List Int, PyData.eqvAll (l.map PyData.int) (m.map PyData.int) = decide (l = m)
  | [], [] => rfl
  | [], b :: m => rfl
  | a :: l, [] => rfl
  | a :: l, b :: m => by
    show ((a == b) && PyData.eqvAll (l.map PyData.int) (m.map PyData.int)) = _
    rw [eqv_intsR l m]
    by_cases h1 : a = b
    · subst h1
      by_cases h2 : l = m
      · subst h2
        simp
      · rw [decide_eq_false h2, Bool.and_false, decide_eq_false (fun h => h2 (List.cons.inj h).2)]
    · rw [beq_eq_false_iff_ne.mpr h1, Bool.false_and, decide_eq_false (fun h => h1 (List.cons.inj h).1)]
def dpG (g : List Int) : PyData := .tuple (g.map PyData.int)
theorem shaped_G (g : List Int) : SeqAt.shaped (dpG g) = true := by
  obtain ⟨h1, h2⟩ := lay_intsR g
  show (PyData.canLayAll0 (g.map PyData.int) && decide (PyData.depthAll (g.map PyData.int) + 1 ≤ 64)) = true
  rw [h1, h2]
  rfl
theorem lay_Gs : ∀ S : List (List Int), PyData.canLayAll0 (S.map dpG) = true ∧ PyData.depthAll (S.map dpG) ≤ 1
  | [] => ⟨rfl, Nat.zero_le _⟩
  | g :: r => by
    obtain ⟨h1, h2⟩ := lay_Gs r
    obtain ⟨h3, h4⟩ := lay_intsR g
    refine ⟨?_, ?_⟩
    · show (PyData.canLayAll0 (g.map PyData.int) && PyData.canLayAll0 (r.map dpG)) = true
      rw [h1, h3]
      rfl
    · show max (PyData.depthAll (g.map PyData.int) + 1) (PyData.depthAll (r.map dpG)) ≤ 1
      rw [h4]
      omega
theorem shaped_Gs (S : List (List Int)) : SeqAt.shaped (.list (S.map dpG)) = true := by
  obtain ⟨h1, h2⟩ := lay_Gs S
  show (PyData.canLayAll0 (S.map dpG) && decide (PyData.depthAll (S.map dpG) + 1 ≤ 64)) = true
  rw [h1, decide_eq_true (by omega)]
  rfl
theorem eqv_G (g h : List Int) : PyData.eqv (dpG g) (dpG h) = decide (g = h) := eqv_intsR g h
theorem dp_Gs {K : PySem.W.Frag} {H : Hp} : ∀ {S : List (List Int)} {xs : List V}, Each (OptIn H) S xs → DpAll K H xs (S.map dpG)
  | [], [], _ => .nil
  | [], x :: xs, h => by have := h.1; cases this
  | g :: S, [], h => by have := h.1; cases this
  | g :: S, x :: xs, h => by
    obtain ⟨b, rfl, hb⟩ := h.2 0 g x rfl rfl
    refine .cons (.tup (sqt hb) (dp_intsR g)) (dp_Gs ⟨Nat.succ.inj h.1, fun k a y h1 h2 => h.2 (k + 1) a y h1 h2⟩)
theorem any_Gs (S : List (List Int)) (g : List Int) : ((S.map dpG).any fun z => PyData.eqv z (dpG g)) = decide (g ∈ S) := by
  rw [List.any_map]
  refine Bool.eq_iff_iff.mpr ?_
  rw [List.any_eq_true, decide_eq_true_iff]
  constructor
  · rintro ⟨x, hx, e⟩
    have : decide (x = g) = true := (eqv_G x g) ▸ e
    exact of_decide_eq_true this ▸ hx
  · intro h
    exact ⟨g, h, (eqv_G g g).trans (decide_eq_true rfl)⟩
/-- for over a range with a break -/
theorem gx_forBrk {lo : Int} {n : Nat} {g : TG} {tb : TS} {D : Ends} {σ : L2.St} {H : Hp} (Pv : Nat → L2.St → Hp → Prop) (Post : L2.St → Hp → Prop) (h0 : Pv 0 σ H)
    (hs : (∀ σ H, Post σ H → D.nx σ H) → ∀ i σ H, i < n → Pv i σ H → g (.int (lo + i)) σ H fun σ2 H2 => tb { D with nx := Pv (i + 1), ct := Pv (i + 1), bk := D.nx } σ2 H2) (hd : ∀ σ H, Pv n σ H → Post σ H) (hdone : ∀ σ H, Post σ H → D.nx σ H) :
    ∃ W : Nat → Nat → L2.St → Hp → Prop, (∃ m, W 0 m σ H) ∧ ∀ i m σ H, W i m σ H →
      ((Itr lo n).stop i H ∧ D.nx σ H) ∨ ((Itr lo n).go i H ∧ ∃ N : L2.St → Hp → Prop, (∀ σ' H', N σ' H' → ∃ m', m' < m ∧ W (i + 1) m' σ' H') ∧ ∀ x H', (Itr lo n).yld i H x H' → g x σ H' fun σ2 H2 => tb { D with nx := N, ct := N, bk := D.nx } σ2 H2) :=
  for_range Pv h0 (hs hdone) fun σ H p => hdone σ H (hd σ H p)
theorem in_int {x : Int} {l : List Int} : (if false = true then !inV (V.int x) (l.map V.int) else inV (V.int x) (l.map V.int)) = decide (x ∈ l) := by
  have h := notIn_int (x := x) (l := l)
  rw [if_pos rfl] at h
  rw [if_neg Bool.false_ne_true]
  cases hb : inV (V.int x) (l.map V.int) <;> rw [hb] at h <;> cases hd : decide (x ∈ l) <;> rw [hd] at h <;> first | rfl | cases h

theorem shaped_I (l : List Int) : SeqAt.shaped (.list (l.map PyData.int)) = true := by
  obtain ⟨h1, h2⟩ := lay_intsR l
  show (PyData.canLayAll0 (l.map PyData.int) && decide (PyData.depthAll (l.map PyData.int) + 1 ≤ 64)) = true
  rw [h1, h2]
  rfl
theorem eqv_I (l m : List Int) : PyData.eqv (.list (l.map PyData.int)) (.list (m.map PyData.int)) = decide (l = m) := eqv_intsR l m
def pr (q : Int × Int) : List Int := [q.1, q.2]
theorem mem_pr {L : List (Int × Int)} {p a : Int} : [p, a] ∈ L.map pr ↔ (p, a) ∈ L := by
  constructor
  · intro h
    obtain ⟨q, hq, e⟩ := List.mem_map.mp h
    unfold pr at e
    have e1 : q.1 = p := (List.cons.inj e).1
    have e2 : q.2 = a := (List.cons.inj (List.cons.inj e).2).1
    rw [← e1, ← e2]
    exact hq
  · intro h
    exact List.mem_map.mpr ⟨(p, a), h, rfl⟩
section
variable {P : Program} {w : World} {K : PySem.W.Frag} {mg : Str → Option Value} {base : Heap}
/-! ### _law_kept -/
def spLKept : Sp := fun vs H Q _ => ∃ (av : V) (hp : Addr) (A : Ar) (hm : List Int) (k : Nat), vs = [av, .ref hp, .int (k : Int)] ∧ ArIn H A av ∧ ArG A ∧ A.length ≤ 400 ∧ H hp = some (.tup (hm.map V.int)) ∧ k ≤ 400 ∧
  ∀ (D : Addr) (zs : List V) (L : List (Int × Int)) (H' : Hp), Same H H' → H' D = some (.lst zs) → Each (OptIn H') (L.map pr) zs → (∀ p a, (p, a) ∈ L ↔ Gk A hm k p a) → Q (.ref D) H'
theorem ok_law_kept (T : Txt K mg) : FnOk P w K mg base CX0 1 T.a_law_kept T.d_law_kept P_law_kept spLKept := by
  refine T.F_law_kept.ok sc_law_kept (fun vs H Q E h => ?_) (fun cdv A outer s H vs Q E hr h => ?_)
  · obtain ⟨av, hp, A, hm, k, rfl, _⟩ := h
    rfl
  obtain ⟨av, hp, A0, hm, k, rfl, ⟨b0, xs, rfl, e0, hxs⟩, hG, hn6, hhp, hk6, q⟩ := h
  have hxl := hxs.1
  refine ⟨_, (pss_cons (ps_set (i := 3) sc_law_kept.nd rfl (Or.inr rfl) (pe_lst pa_nil))
    (pss_cons (ps_for  PassesOwn.never rfl (pi_range1 (by rfl) T.z_range (pa_cons (pe_callB call_len_seq (by rfl) T.z_len PySem.boot_len (pa_cons (pv 0) pa_nil)) pa_nil)) (pg_name (i := 4) sc_law_kept.nd rfl (Or.inl rfl))
    (pss_one (ps_for  PassesOwn.never rfl (pi_range1 (by rfl) T.z_range (pa_cons (pe_op op_add (pv 2) pe_int) pa_nil)) (pg_name (i := 5) sc_law_kept.nd rfl (Or.inl rfl))
    (pss_one (ps_if (pt_cmpR op_eq (pe_cmpR op_in_seq (pv 4) (pv 1) (by rfl)) (pe_cmpR op_eq (pv 5) pe_int (nomark _)) (nomark _))
    (pss_one (ps_expr (pe_bm PySem.F.plainAttrs_list PySem.F.slot_list_append PySem.F.type_list_append mt_append (pv 3) (pa_cons (pe_tup (pa_cons (pv 4) (pa_cons (pv 5) pa_nil))) pa_nil))))
    pss_nil)))))
    (pss_cons (ps_for  PassesOwn.never rfl (pi_range1 (by rfl) T.z_range (pa_cons (pe_op op_add (pe_op op_mul (pe_callB call_len_seq (by rfl) T.z_len PySem.boot_len (pa_cons (pv 0) pa_nil)) (pe_op op_add (pv 2) pe_int)) pe_int) pa_nil)) (pg_name (i := 6) sc_law_kept.nd rfl (Or.inl rfl))
    (pss_cons (ps_set (i := 7) sc_law_kept.nd rfl (Or.inl rfl) (pe_lst pa_nil))
    (pss_cons (ps_for  PassesOwn.never rfl (pi_list (pv 3)) (pg_name (i := 8) sc_law_kept.nd rfl (Or.inr rfl))
    (pss_one (ps_for  PassesOwn.never rfl (pi_tup (pe_ix ix_tup (pv 0) (pe_ix ix_tup (pv 8) pe_int (fun _ _ => rfl)) (fun _ _ => rfl))) (pg_name (i := 9) sc_law_kept.nd rfl (Or.inl rfl))
    (pss_cons (ps_setLc (i := 10) (own := [("one", 11)]) (g := (gName 11)) (tt := _) rfl sc_law_kept.nd rfl rfl (sw_true rfl rfl rfl (by decide +kernel)) (pi_tup (pv 9)) (blkOk_by (N := N_law_kept) (sc := defScope s_law_kept) (by decide +kernel)) (fun _ _ _ _ _ => (pg_name (i := 11) sc_law_kept.nd rfl (Or.inl rfl))) (fun _ _ _ _ _ => (pts_one (PW.pt (pw_or (pt_cmpR op_eq (pv 11) (pe_un un_neg pe_int) (nomark _)) (pw_or1 (pt_cmpR (op_notInDK (K := K) rfl (hu65_of hr)) (pe_tup (pa_cons (pv 11) (pa_cons (pe_op op_mul (pe_op op_add (pe_ix (ix_tupK (K := K) rfl) (pv 8) pe_int (fun _ _ => rfl)) pe_int) (pe_callTy call_int1 (by rfl) T.z_int (by decide +kernel) (pa_cons (pe_cmpR (op_notIn_seqK (K := K) rfl) (pv 11) (pv 1) (by rfl)) pa_nil))) pa_nil))) (pv 3) (by rfl))))))) (fun _ _ _ _ _ => (pv 11)))
    (pss_one (ps_if (PW.pt (pw_and (pt_cmpR (op_eqD hr.units) (pv 10) (pe_lst pa_nil) (nomark _)) (pw_and1 (pt_cmpR (op_notInD (hu65_of hr)) (pv 8) (pv 7) (by rfl)))))
    (pss_one (ps_expr (pe_bm PySem.F.plainAttrs_list PySem.F.slot_list_append PySem.F.type_list_append mt_append (pv 7) (pa_cons (pv 8) pa_nil))))
    pss_nil))))))
    (pss_cons (ps_if (pt_cmpR op_eq (pe_callB call_len_seq (by rfl) T.z_len PySem.boot_len (pa_cons (pv 7) pa_nil)) (pe_callB call_len_seq (by rfl) T.z_len PySem.boot_len (pa_cons (pv 3) pa_nil)) (nomark _))
    (pss_one ps_break)
    pss_nil)
    (pss_one (ps_set (i := 3) sc_law_kept.nd rfl (Or.inr rfl) (pv 7)))))))
    (pss_one (ps_ret (pv 3)))))), ?_⟩
  refine ⟨Nat.zero_le _, fun kl hkl => ?_⟩
  obtain ⟨H1, e1, s1, k1⟩ := newH hkl (.lst [])
  rw [e1]
  refine ⟨_, rfl, b0, _, rfl, .inr (sqt (s1 _ _ e0)), _, rfl, by omega, by omega, for_range (lo := 0) (n := ((xs.length : Nat) : Int).toNat) (fun (j : Nat) (σ : L2.St) (H' : Hp) => ∃ (zs : List V) (y4 y5 y6 y7 y8 y9 y10 y11 : Option V), σ = [some (.ref b0), some (.ref hp), some (.int (k : Int)), some (.ref kl), y4, y5, y6, y7, y8, y9, y10, y11] ∧ Same H H' ∧ H' kl = some (.lst zs) ∧ Each (OptIn H') ((allP hm (k + 1) j).map pr) zs) ?_ ?_ ?_⟩
  · exact ⟨[], _, _, _, _, _, _, _, _, rfl, s1, k1, .nil⟩
  · rintro j σ H2 hj ⟨zs, y4, y5, y6, y7, y8, y9, y10, y11, rfl, s2, k2, hzs⟩
    refine ⟨_, rfl, _, _, rfl, rfl, _, rfl, by omega, by omega, for_range (lo := 0) (n := ((k : Int) + 1).toNat) (fun (t : Nat) (σ : L2.St) (H' : Hp) => ∃ (zs : List V) (y5 : Option V), σ = [some (.ref b0), some (.ref hp), some (.int (k : Int)), some (.ref kl), some (.int (0 + (j : Int))), y5, y6, y7, y8, y9, y10, y11] ∧ Same H H' ∧ H' kl = some (.lst zs) ∧ Each (OptIn H') ((allP hm (k + 1) j ++ rowP hm ((0 : Int) + (j : Int)) t).map pr) zs) ?_ ?_ ?_⟩
    · refine ⟨zs, _, rfl, s2, k2, ?_⟩
      rw [show rowP hm ((0 : Int) + (j : Int)) 0 = [] from rfl, List.append_nil]
      exact hzs
    · rintro t σ H3 ht ⟨zs, y5, rfl, s3, k3, hzs⟩
      have hzl := hzs.1
      have hlz : zs.length ≤ 200000 := by
        have h1 := len_allP hm (k + 1) j
        have h2 := len_rowP hm ((0 : Int) + (j : Int)) t
        have h3 : j * (k + 1) ≤ 400 * 401 := Nat.mul_le_mul (by omega) (by omega)
        rw [List.length_map, List.length_append] at hzl
        omega
      have hnx : rowP hm ((0 : Int) + (j : Int)) (t + 1) = rowP hm ((0 : Int) + (j : Int)) t ++ if decide ((0 : Int) + (j : Int) ∈ hm) = decide ((0 : Int) + (t : Int) = 0) then [((0 : Int) + (j : Int), (0 : Int) + (t : Int))] else [] := by
        unfold rowP
        rw [rngI_s, List.filter_append, List.map_append]
        congr 1
        simp only [List.filter_cons, List.filter_nil]
        split <;> split <;> simp_all
      refine ⟨_, rfl, _, rfl, hp, _, rfl, .inr (sqt (s3 _ _ hhp)), rfl, flat_ints' _, ?_⟩
      rw [in_int]
      have hv : decide (V.int ((0 : Int) + (t : Int)) = V.int 0) = decide ((0 : Int) + (t : Int) = 0) := decide_eq_decide.mpr ⟨V.int.inj, fun e => congrArg V.int e⟩
      refine ⟨_, rfl, rfl, rfl, _, rfl, ?_⟩
      rw [hv]
      by_cases hc : decide ((0 : Int) + (j : Int) ∈ hm) = decide ((0 : Int) + (t : Int) = 0)
      · refine ifT (decide_eq_true (congrArg V.bl hc)) ?_
        refine ⟨_, rfl, .inl ⟨rfl, _, sqd k3⟩, _, rfl, _, rfl, Nat.le_of_ble_eq_true rfl, fun tp htp => ?_⟩
        obtain ⟨H4, e4, s4, k4⟩ := newH htp (.tup [V.int ((0 : Int) + (j : Int)), V.int ((0 : Int) + (t : Int))])
        rw [e4]
        have k34 := s4 _ _ k3
        have hne : tp ≠ kl := fun e => by rw [e, k3] at htp; cases htp
        refine ⟨kl, zs, _, rfl, rfl, k34, big' (by omega), ?_⟩
        refine ⟨zs ++ [.ref tp], _, rfl, same_put (s3.trans s4) hkl, upd_same, ?_⟩
        rw [hnx, if_pos hc, ← List.append_assoc, List.map_append]
        exact (hzs.mono fun o x => OptIn.tp (tp_put (Tp.same s4) k34)).snoc ⟨tp, rfl, by rw [upd_ne hne]; exact k4⟩
      · refine ifF (decide_eq_false fun e => hc (V.bl.inj e)) ⟨zs, _, rfl, s3, k3, ?_⟩
        rw [hnx, if_neg hc, List.append_nil]
        exact hzs
    · rintro σ H3 ⟨zs, y5, rfl, s3, k3, hzs⟩
      rw [show ((k : Int) + 1).toNat = k + 1 by omega] at hzs
      exact ⟨zs, _, _, _, _, _, _, _, _, rfl, s3, k3, hzs⟩
  rintro σ H2 ⟨zs, y4, y5, y6, y7, y8, y9, y10, y11, rfl, s2, k2, hzs⟩
  rw [show ((xs.length : Nat) : Int).toNat = A0.length by omega] at hzs
  have hN : ((xs.length : Nat) : Int) * ((k : Int) + 1) = ((A0.length * (k + 1) : Nat) : Int) := by
    rw [hxl, Int.natCast_mul, Int.natCast_add]
    rfl
  have hN42 : A0.length * (k + 1) ≤ 160400 := Nat.mul_le_mul hn6 (show k + 1 ≤ 401 by omega)
  have hL0 := len_allP hm (k + 1) A0.length
  have hK0 := kpP_all A0 hm k
  generalize allP hm (k + 1) A0.length = L0 at hzs hL0 hK0
  generalize A0.length * (k + 1) = N0 at hN hN42 hL0
  refine ⟨_, rfl, b0, _, rfl, .inr (sqt (s2 _ _ e0)), _, rfl, _, _, rfl, rfl, ?_⟩
  refine ⟨_, _, rfl, rfl, .inr ⟨by omega, by omega⟩, _, _, rfl, rfl, ((N0 : Nat) : Int) + 1, by rw [← hN], by omega, by omega, ?_⟩
  refine gx_forBrk (lo := 0) (n := (((N0 : Nat) : Int) + 1).toNat) (fun (j : Nat) (σ : L2.St) (H' : Hp) => ∃ (kl : Addr) (zs : List V) (L : List (Int × Int)) (y4 y5 y6 y7 y8 y9 y10 y11 : Option V), σ = [some (.ref b0), some (.ref hp), some (.int (k : Int)), some (.ref kl), y4, y5, y6, y7, y8, y9, y10, y11] ∧ Same H H' ∧ H' kl = some (.lst zs) ∧ Each (OptIn H') (L.map pr) zs ∧ KpP A0 hm k L ∧ L.length + j ≤ N0)
    (fun (σ : L2.St) (H' : Hp) => ∃ (kl : Addr) (zs : List V) (L : List (Int × Int)) (y4 y5 y6 y7 y8 y9 y10 y11 : Option V), σ = [some (.ref b0), some (.ref hp), some (.int (k : Int)), some (.ref kl), y4, y5, y6, y7, y8, y9, y10, y11] ∧ Same H H' ∧ H' kl = some (.lst zs) ∧ Each (OptIn H') (L.map pr) zs ∧ KpP A0 hm k L ∧ L.filter (okP A0 hm L) = L) ?_ (fun done => ?_) ?_ ?_
  · exact ⟨kl, zs, L0, _, _, _, _, _, _, _, _, rfl, s2, k2, hzs, hK0, hL0⟩
  · rintro j σ H3 hj ⟨kl, zs, L, y4, y5, y6, y7, y8, y9, y10, y11, rfl, s3, k3, hzs, hK, hlen⟩
    have hzl := hzs.1
    rw [List.length_map] at hzl
    refine ⟨Nat.zero_le _, fun sl hsl => ?_⟩
    obtain ⟨H4, e4, s4, k4⟩ := newH hsl (.lst [])
    rw [e4]
    have hskl : sl ≠ kl := fun e => by rw [e, k3] at hsl; cases hsl
    refine ⟨_, rfl, kl, rfl, ⟨_, sqd (s4 _ _ k3)⟩, ?_⟩
    refine for_list (K := K) (a := kl) (xs := zs) (fun (t : Nat) (σ : L2.St) (H' : Hp) => ∃ (ss : List V) (y8 y9 y10 y11 : Option V), σ = [some (.ref b0), some (.ref hp), some (.int (k : Int)), some (.ref kl), y4, y5, some (.int (0 + (j : Int))), some (.ref sl), y8, y9, y10, y11] ∧ Same H3 H' ∧ H' sl = some (.lst ss) ∧ Each (OptIn H') (((L.take t).filter (okP A0 hm L)).map pr) ss) ?_ ?_ ?_ ?_
    · exact ⟨[], _, _, _, _, rfl, s4, k4, .nil⟩
    · rintro t σ H' _ ⟨ss, y8, y9, y10, y11, rfl, s, _⟩
      exact sqd (s _ _ k3)
    · rintro t z σ H5 hz ⟨ss, y8, y9, y10, y11, rfl, s5, k5, hss⟩
      have htl := (List.getElem?_eq_some_iff.mp hz).1
      obtain ⟨⟨p, a⟩, hq⟩ : ∃ q, L[t]? = some q := ⟨_, List.getElem?_eq_getElem (by omega)⟩
      obtain ⟨tp, rfl, etp⟩ := hzs.2 t [p, a] z (by rw [List.getElem?_map, hq]; rfl) hz
      have etp : H3 tp = some (.tup [V.int p, V.int a]) := etp
      have hV := hK.vld (p, a) (List.mem_of_getElem? hq)
      have hp0 : 0 ≤ p := hV.p0
      have hp1 : p < (A0.length : Int) := hV.p1
      have ha0 : 0 ≤ a := hV.a0
      have ha1 : a ≤ (k : Int) := hV.a1
      obtain ⟨os, v, hos, hat, b1, ys, rfl, eb1, hys⟩ := hxs.atI hp0 hp1
      have hysl := hys.1
      have hosm := List.mem_of_getElem? hos
      generalize hfs : (L.take t).filter (okP A0 hm L) = Fs at hss
      have hFl : Fs.length ≤ 160400 := by
        have := List.length_filter_le (okP A0 hm L) (L.take t)
        rw [List.length_take, hfs] at this
        omega
      have hgA : A0.getD p.toNat [] = os := by rw [List.getD_eq_getElem?_getD, hos]; rfl
      generalize hokS : (fun s : Int => !decide (s = -1) && decide ((s, (a + 1) * (if s ∈ hm then 0 else 1)) ∈ L)) = okS
      have hokP : okP A0 hm L (p, a) = os.any fun o => o.all okS := by
        unfold okP
        show (A0.getD p.toNat []).any _ = _
        rw [hgA, ← hokS]
      have s05 := s3.trans s5
      refine ⟨_, rfl, _, rfl, tp, _, _, _, rfl, rfl, sqt (s5 _ _ etp), atI0, b0, _, _, _, rfl, rfl, sqt (s05 _ _ e0), hat, b1, rfl, ⟨_, sqt (s05 _ _ eb1)⟩, ?_⟩
      refine for_tup (K := K) (a := b1) (xs := ys) (fun (u : Nat) (σ : L2.St) (H' : Hp) => ∃ (ss : List V) (y9 y10 y11 : Option V), σ = [some (.ref b0), some (.ref hp), some (.int (k : Int)), some (.ref kl), y4, y5, some (.int (0 + (j : Int))), some (.ref sl), some (.ref tp), y9, y10, y11] ∧ Same H3 H' ∧ H' sl = some (.lst ss) ∧ Each (OptIn H') ((Fs ++ if (os.take u).any (fun o => o.all okS) = true then [(p, a)] else []).map pr) ss) ?_ ?_ ?_ ?_
      · refine ⟨ss, _, _, _, rfl, s5, k5, ?_⟩
        rw [List.take_zero, List.any_nil, if_neg Bool.false_ne_true, List.append_nil]
        exact hss
      · rintro u σ H' _ ⟨ss, y9, y10, y11, rfl, s, _⟩
        exact sqt (s _ _ (s3 _ _ eb1))
      · rintro u z σ H6 hz ⟨ss, y9, y10, y11, rfl, s6, k6, hss⟩
        have hssl := hss.1
        rw [List.length_map, List.length_append] at hssl
        have hul := (List.getElem?_eq_some_iff.mp hz).1
        obtain ⟨o, ho⟩ : ∃ o, os[u]? = some o := ⟨_, List.getElem?_eq_getElem (by omega)⟩
        obtain ⟨b2, rfl, eb2⟩ := hys.2 u o z ho hz
        have hO := (hG.2 os hosm).2 o (List.mem_of_getElem? ho)
        have hol := hO.len
        have hnx : (os.take (u + 1)).any (fun o => o.all okS) = ((os.take u).any (fun o => o.all okS) || o.all okS) := by
          rw [List.take_add_one, ho, List.any_append]
          simp
        have s06 := s3.trans s6
        refine ⟨_, rfl, b2, rfl, ⟨_, sqt (s06 _ _ eb2)⟩, fun D hD => ?_⟩
        refine lc_tup (K := K) (a := b2) (xs := o.map V.int) (fun (x : Nat) (H' : Hp) => Same H6 H' ∧ ∃ l : List Int, H' D = some (.lst (l.map V.int)) ∧ l.length ≤ x ∧ (l = [] ↔ (o.take x).all okS = true)) ?_ ?_ ?_ ?_
        · exact ⟨same_new hD _, [], upd_same, Nat.le_refl _, ⟨fun _ => rfl, fun _ => rfl⟩⟩
        · rintro x H' _ ⟨s, _⟩
          exact sqt (s _ _ (s06 _ _ eb2))
        · rintro x z H7 hz ⟨s7, l, k7, hll, hl⟩
          rw [List.getElem?_map] at hz
          obtain ⟨sq, hsq, rfl⟩ := Option.map_eq_some_iff.mp hz
          have hxl := (List.getElem?_eq_some_iff.mp hsq).1
          have hnx2 : (o.take (x + 1)).all okS = ((o.take x).all okS && okS sq) := by
            rw [List.take_add_one, hsq, List.all_append]
            simp
          have s07 := s06.trans s7
          have hbad : okS sq = false → ∀ H8, Same H7 H8 → ∃ acc, H8 D = some (.lst acc) ∧ acc.length < sizeLine ∧ (Same H6 (upd H8 D (.lst (acc ++ [V.int sq]))) ∧ ∃ l : List Int, (upd H8 D (.lst (acc ++ [V.int sq]))) D = some (.lst (l.map V.int)) ∧ l.length ≤ x + 1 ∧ (l = [] ↔ (o.take (x + 1)).all okS = true)) := fun hb H8 s8 =>
            ⟨_, s8 _ _ k7, big' (by rw [List.length_map]; omega), same_put (s7.trans s8) hD, l ++ [sq], by rw [upd_same, List.map_append]; rfl, by rw [List.length_append]; exact Nat.add_le_add_right hll 1, by
              rw [hnx2, hb, Bool.and_false]
              constructor
              · intro e
                simp at e
              · intro e
                cases e⟩
          refine ⟨rfl, ?_⟩
          refine ⟨_, rfl, _, rfl, rfl, _, rfl, ?_⟩
          by_cases h1 : sq = -1
          · refine ifT (decide_eq_true (by rw [h1])) ⟨_, rfl, hbad (by rw [← hokS]; show (!decide (sq = -1) && _) = false; rw [decide_eq_true h1]; rfl) H7 (Same.refl _)⟩
          refine ifF (decide_eq_false fun e => h1 (V.int.inj e)) ?_
          refine ⟨_, rfl, _, rfl, tp, _, _, _, rfl, rfl, sqt ((s6.trans s7) _ _ etp), atI1, _, _, rfl, rfl, _, rfl, _, rfl, hp, _, rfl, .inr (sqt (s07 _ _ hhp)), rfl, flat_ints' _, .inr ⟨_, rfl, ?_⟩⟩
          rw [notIn_int]
          have hmv : (a + 1) * (if (!decide (sq ∈ hm)) = true then 1 else 0) = (a + 1) * (if sq ∈ hm then 0 else 1) := by
            by_cases h : sq ∈ hm
            · rw [if_pos h, decide_eq_true h]
              rfl
            · rw [if_neg h, decide_eq_false h]
              rfl
          refine ⟨_, _, rfl, rfl, .inl ⟨by show -(2 ^ 64 : Int) < a + 1; omega, by show a + 1 < (2 ^ 64 : Int); omega⟩, Nat.le_of_ble_eq_true rfl, fun tq htq => ?_⟩
          dsimp only
          rw [hmv]
          obtain ⟨H8, e8, s8, k8⟩ := newH htq (.tup [V.int sq, V.int ((a + 1) * (if sq ∈ hm then 0 else 1))])
          rw [e8]
          have hzs8 : Each (OptIn H8) (L.map pr) zs := hzs.mono fun o x => OptIn.tp (Tp.same (s6.trans (s7.trans s8)))
          refine ⟨_, rfl, dpG [sq, (a + 1) * (if sq ∈ hm then 0 else 1)], _, .tup (sqt k8) (dp_intsR [sq, (a + 1) * (if sq ∈ hm then 0 else 1)]), .lst (sqd ((s6.trans (s7.trans s8)) _ _ k3)) (dp_Gs hzs8), shaped_G _, shaped_Gs _, _, rfl, ?_⟩
          rw [any_Gs]
          by_cases h2 : (sq, (a + 1) * (if sq ∈ hm then 0 else 1)) ∈ L
          · refine ifF (by rw [decide_eq_true (mem_pr.mpr h2)]; rfl) ⟨s7.trans s8, l, s8 _ _ k7, by omega, ?_⟩
            have hok : okS sq = true := by
              rw [← hokS]
              show (!decide (sq = -1) && _) = true
              rw [decide_eq_false h1, decide_eq_true h2]
              rfl
            rw [hnx2, hok, Bool.and_true]
            exact hl
          · refine ifT (by rw [decide_eq_false fun e => h2 (mem_pr.mp e)]; rfl) ⟨_, rfl, hbad ?_ H8 s8⟩
            rw [← hokS]
            show (!decide (sq = -1) && _) = false
            rw [decide_eq_false h2, Bool.and_false]
        rintro H7 ⟨s7, l, k7, hll, hl⟩
        rw [List.length_map, List.take_length] at hl
        refine ⟨_, rfl, Nat.zero_le _, fun el hel => ?_⟩
        obtain ⟨H8, e8, s8, k8⟩ := newH hel (.lst (([] : List Int).map V.int))
        rw [show upd H7 el (.lst []) = H8 from e8]
        have s68 := s7.trans s8
        have k68 := s68 _ _ k6
        have hss8 := hss.mono fun o x => OptIn.tp (Tp.same s68)
        refine ⟨.list (l.map PyData.int), .list (([] : List Int).map PyData.int), .lst (sqd (s8 _ _ k7)) (dp_intsR l), .lst (sqd k8) (dp_intsR []), shaped_I l, shaped_I [], _, rfl, ?_⟩
        rw [eqv_I]
        have hkeep : ((os.take (u + 1)).any (fun o => o.all okS) = true ↔ (os.take u).any (fun o => o.all okS) = true) → Each (OptIn H8) ((Fs ++ if (os.take (u + 1)).any (fun o => o.all okS) = true then [(p, a)] else []).map pr) ss := fun hiff => by
          have e : (if (os.take (u + 1)).any (fun o => o.all okS) = true then [(p, a)] else []) = if (os.take u).any (fun o => o.all okS) = true then [(p, a)] else [] := by
            by_cases h : (os.take u).any (fun o => o.all okS) = true
            · rw [if_pos h, if_pos (hiff.mpr h)]
            · rw [if_neg h, if_neg fun h2 => h (hiff.mp h2)]
          rw [e]
          exact hss8
        by_cases hl0 : l = []
        · refine ifT (decide_eq_true hl0) ?_
          have hoall := hl.mp hl0
          have hnotF : (p, a) ∉ Fs := fun hm2 => by
            rw [← hfs] at hm2
            have h1 := hK.nd.sublist (List.take_sublist (t + 1) L)
            rw [List.take_add_one, hq] at h1
            exact (List.nodup_append.mp h1).2.2 _ (List.mem_filter.mp hm2).1 (p, a) (by simp) rfl
          refine ⟨_, rfl, _, rfl, dpG [p, a], _, .tup (sqt (s68 _ _ (s6 _ _ etp))) (dp_intsR [p, a]), .lst (sqd k68) (dp_Gs hss8), shaped_G _, shaped_Gs _, _, rfl, ?_⟩
          rw [any_Gs]
          by_cases hany : (os.take u).any (fun o => o.all okS) = true
          · refine ifF (by rw [if_pos hany, decide_eq_true (mem_pr.mpr (List.mem_append_right _ (List.mem_singleton.mpr rfl)))]; rfl) ?_
            exact ⟨ss, _, _, _, rfl, s6.trans s68, k68, hkeep (by rw [hnx, hany]; exact ⟨fun _ => rfl, fun _ => rfl⟩)⟩
          · refine ifT (by rw [if_neg hany, List.append_nil, decide_eq_false fun e => hnotF (mem_pr.mp e)]; rfl) ?_
            refine ⟨_, rfl, .inl ⟨rfl, _, sqd k68⟩, _, rfl, sl, ss, _, rfl, rfl, k68, big' (by rw [if_neg hany] at hssl; rw [List.length_nil] at hssl; omega), ?_⟩
            refine ⟨ss ++ [.ref tp], _, _, _, rfl, same_put (s6.trans s68) hsl, upd_same, ?_⟩
            rw [if_neg hany, List.append_nil] at hss8
            rw [if_pos (by rw [hnx, hoall, Bool.or_true]), List.map_append]
            have hne : tp ≠ sl := fun e => by rw [e, hsl] at etp; cases etp
            exact (hss8.mono fun o x => OptIn.tp (tp_put Tp.refl k68)).snoc ⟨tp, rfl, by rw [upd_ne hne]; exact s68 _ _ (s6 _ _ etp)⟩
        · refine ifF (decide_eq_false hl0) (iteF ?_)
          exact ⟨ss, _, _, _, rfl, s6.trans s68, k68, hkeep (by rw [hnx, Bool.eq_false_iff.mpr fun e => hl0 (hl.mpr e), Bool.or_false])⟩
      rintro σ H6 ⟨ss, y9, y10, y11, rfl, s6, k6, hss⟩
      rw [hysl, List.take_length, ← hokP] at hss
      refine ⟨ss, _, _, _, _, rfl, s6, k6, ?_⟩
      have e : (L.take (t + 1)).filter (okP A0 hm L) = Fs ++ if okP A0 hm L (p, a) = true then [(p, a)] else [] := by
        rw [List.take_add_one, hq, List.filter_append, hfs]
        congr 1
        show List.filter _ [(p, a)] = _
        simp only [List.filter_cons, List.filter_nil]
      rw [e]
      exact hss
    rintro σ H5 ⟨ss, y8, y9, y10, y11, rfl, s5, k5, hss⟩
    rw [hzl, List.take_length] at hss
    have hssl := hss.1
    rw [List.length_map] at hssl
    refine ⟨_, rfl, sl, _, rfl, .inl (sqd k5), _, rfl, kl, _, rfl, .inl (sqd (s5 _ _ k3)), rfl, _, rfl, ?_⟩
    by_cases hlen2 : (L.filter (okP A0 hm L)).length = L.length
    · refine ifT (decide_eq_true (by rw [hssl, hzl, hlen2])) ?_
      exact done _ _ ⟨kl, zs, L, _, _, _, _, _, _, _, _, rfl, s3.trans s5, s5 _ _ k3, hzs.mono fun o x => OptIn.tp (Tp.same s5), hK, kpP_same hlen2⟩
    · refine ifF (decide_eq_false fun e => hlen2 (by have := V.int.inj e; omega)) ⟨_, rfl, sl, ss, L.filter (okP A0 hm L), _, _, _, _, _, _, _, _, rfl, s3.trans s5, k5, hss, kpP_step hK, ?_⟩
      have := kpP_less hlen2
      omega
  · rintro σ H3 ⟨kl, zs, L, y4, y5, y6, y7, y8, y9, y10, y11, rfl, s3, k3, hzs, hK, hlen⟩
    omega
  rintro σ H3 ⟨kl, zs, L, y4, y5, y6, y7, y8, y9, y10, y11, rfl, s3, k3, hzs, hK, he⟩
  exact ⟨_, rfl, q kl zs L H3 s3 k3 hzs fun p a => kpP_end hK he⟩
end
end NL

set_option maxHeartbeats 4000000
namespace NL
open PySem PySem.Spec PyProof.Rows L2
/-! ### beats of a ring -/
def nxR (n : Nat) (p : Int) : Int := if p + 1 = (n : Int) then 0 else p + 1
def rgA (n : Nat) : Ar := (List.range n).map fun k : Nat => [[nxR n (k : Int)]]
theorem rgA_at {n : Nat} {p : Int} (p0 : 0 ≤ p) (p1 : p < (n : Int)) : (rgA n)[p.toNat]? = some [[nxR n p]] := by
  unfold rgA
  rw [List.getElem?_map, List.getElem?_range (by omega)]
  show some [[nxR n ((p.toNat : Nat) : Int)]] = _
  rw [show ((p.toNat : Nat) : Int) = p by omega]
theorem rgA_len (n : Nat) : (rgA n).length = n := by unfold rgA; rw [List.length_map, List.length_range]
def dsR (n : Nat) (at_ p : Int) : Int := if p ≤ at_ then at_ - p else at_ - p + (n : Int)
theorem ring_step {n k : Nat} {at_ p a : Int} (h : Gk (rgA n) [at_] k p a) : Vld [at_] n k p a ∧ Gk (rgA n) [at_] k (nxR n p) (nxA [at_] (nxR n p) a) := by
  obtain ⟨hv, i, o, ⟨os, h1, h2⟩, hall⟩ := gk_pst _ _ _ _ _ h
  rw [rgA_len] at hv
  rw [rgA_at hv.p0 hv.p1] at h1
  cases h1
  have ho : o = [nxR n p] := by
    have := List.mem_of_getElem? h2
    exact List.mem_singleton.mp this
  rw [ho] at hall
  exact ⟨hv, (hall _ (List.mem_singleton.mpr rfl)).2⟩
theorem ring_back {n k : Nat} {at_ : Int} (a0 : 0 ≤ at_) (a1 : at_ < (n : Int)) : ∀ (d : Nat) (p a : Int), p ≠ at_ → dsR n at_ p = (d : Int) → Gk (rgA n) [at_] k p a → a + (d : Int) - 1 ≤ (k : Int) ∧ Gk (rgA n) [at_] k at_ 0
  | 0, p, a, hp, hd, h => by
    obtain ⟨hv, _⟩ := ring_step h
    have := hv.p0
    have := hv.p1
    unfold dsR at hd
    split at hd <;> omega
  | d + 1, p, a, hp, hd, h => by
    obtain ⟨hv, hn⟩ := ring_step h
    have h0 := hv.p0
    have h1 := hv.p1
    have h2 := hv.a1
    by_cases e : nxR n p = at_
    · rw [e] at hn
      unfold nxA at hn
      rw [if_pos (List.mem_singleton.mpr rfl)] at hn
      refine ⟨?_, hn⟩
      have : (d : Int) = 0 := by
        unfold nxR at e
        unfold dsR at hd
        split at e <;> split at hd <;> omega
      omega
    · have hd2 : dsR n at_ (nxR n p) = (d : Int) := by
        unfold nxR at e ⊢
        unfold dsR at hd ⊢
        split at e <;> split at hd <;> split <;> (try split) <;> omega
      unfold nxA at hn
      rw [if_neg (fun h => e (List.mem_singleton.mp h))] at hn
      obtain ⟨r1, r2⟩ := ring_back a0 a1 d _ _ e hd2 hn
      exact ⟨by omega, r2⟩
theorem ring_no {n k : Nat} {at_ p : Int} (n2 : 2 ≤ n) (a0 : 0 ≤ at_) (a1 : at_ < (n : Int)) (p0 : 0 ≤ p) (p1 : p < (n : Int)) (h : Gk (rgA n) [at_] k p (stA [at_] p)) : (n : Int) - 1 ≤ (k : Int) := by
  have hh : Gk (rgA n) [at_] k at_ 0 := by
    by_cases e : p = at_
    · unfold stA at h
      rw [if_pos (List.mem_singleton.mpr e), e] at h
      exact h
    · obtain ⟨d, hd⟩ : ∃ d : Nat, dsR n at_ p = (d : Int) := ⟨(dsR n at_ p).toNat, by unfold dsR; split <;> omega⟩
      exact (ring_back a0 a1 d p _ e hd h).2
  obtain ⟨hv, hn⟩ := ring_step hh
  have hne : nxR n at_ ≠ at_ := by unfold nxR; split <;> omega
  unfold nxA at hn
  rw [if_neg (fun h => hne (List.mem_singleton.mp h))] at hn
  have hd : dsR n at_ (nxR n at_) = ((n - 1 : Nat) : Int) := by
    unfold dsR nxR
    split <;> (try split) <;> omega
  have := (ring_back a0 a1 (n - 1) _ _ hne hd hn).1
  omega
theorem ring_yes {n : Nat} {at_ p : Int} (n2 : 2 ≤ n) (a0 : 0 ≤ at_) (a1 : at_ < (n : Int)) (p0 : 0 ≤ p) (p1 : p < (n : Int)) : Gk (rgA n) [at_] (n - 1) p (stA [at_] p) := by
  refine ⟨fun p a => 0 ≤ p ∧ p < (n : Int) ∧ ((p = at_ ∧ a = 0) ∨ (p ≠ at_ ∧ 1 ≤ a ∧ a + dsR n at_ p ≤ (n : Int))), ?_, p0, p1, ?_⟩
  · rintro p a ⟨p0, p1, h⟩
    have hv : Vld [at_] n (n - 1) p a := by
      rcases h with ⟨h1, h2⟩ | ⟨h1, h2, h3⟩
      · exact ⟨p0, p1, by omega, by omega, ⟨fun _ => h2, fun _ => List.mem_singleton.mpr h1⟩⟩
      · have : 1 ≤ dsR n at_ p := by unfold dsR; split <;> omega
        exact ⟨p0, p1, by omega, by omega, ⟨fun h => absurd (List.mem_singleton.mp h) h1, fun h => by omega⟩⟩
    refine ⟨by rw [rgA_len]; exact hv, 0, [nxR n p], ⟨_, rgA_at p0 p1, rfl⟩, fun s hs => ?_⟩
    rw [List.mem_singleton.mp hs]
    have hr : 0 ≤ nxR n p ∧ nxR n p < (n : Int) := by unfold nxR; split <;> omega
    refine ⟨by omega, hr.1, hr.2, ?_⟩
    unfold nxA
    by_cases e : nxR n p = at_
    · exact .inl ⟨e, if_pos (List.mem_singleton.mpr e)⟩
    · refine .inr ⟨e, ?_⟩
      rw [if_neg (fun h => e (List.mem_singleton.mp h))]
      rcases h with ⟨h1, h2⟩ | ⟨h1, h2, h3⟩
      · refine ⟨by omega, ?_⟩
        unfold nxR at e ⊢
        unfold dsR
        split at e <;> split <;> (try split) <;> omega
      · refine ⟨by omega, ?_⟩
        unfold nxR at e ⊢
        unfold dsR at h3 ⊢
        split at e <;> split at h3 <;> split <;> (try split) <;> omega
  · unfold stA
    by_cases e : p = at_
    · exact .inl ⟨e, if_pos (List.mem_singleton.mpr e)⟩
    · refine .inr ⟨e, ?_⟩
      rw [if_neg (fun h => e (List.mem_singleton.mp h))]
      refine ⟨by omega, ?_⟩
      unfold dsR
      split <;> omega
end NL

set_option maxHeartbeats 8000000
namespace NL
open PySem PySem.Spec PyProof.Rows L2
theorem gk_top {A : Ar} {hm : List Int} (hG : ArG A) (hhm : ∀ x ∈ hm, 0 ≤ x ∧ x < (A.length : Int)) {n : Nat} (hn : A.length = n + 1) {p : Int} (h : Gk A hm (n + 1) p (stA hm p)) : Gk A hm n p (stA hm p) := by
  classical
  have ham : ∀ p, p ∈ ((psA A.length).filter fun p => !decide (p ∈ hm)) ↔ 0 ≤ p ∧ p < (A.length : Int) ∧ p ∉ hm := fun p => by
    rw [List.mem_filter, psA_mem]
    simp [and_assoc]
  have D0 := mr_rds (B := fun p => decide (p ∈ hm ∧ Gk A hm (n + 1) p 0)) hG ham
  refine gk_last (S := fun p => decide (p ∈ hm ∧ Gk A hm (n + 1) p 0) = true) hG (fun p => decide_eq_true_iff) D0 (fun p hp => ?_) h
  by_cases hr : 0 ≤ p ∧ p < (A.length : Int)
  · exact mr_few hG ham hhm (fun p hp => (of_decide_eq_true hp).1) hn hr.1 hr.2 hp
  · exfalso
    have hnot : p ∉ ((psA A.length).filter fun p => !decide (p ∈ hm)) := fun h => hr ⟨((ham p).mp h).1, ((ham p).mp h).2.1⟩
    rw [mr_out hnot] at hp
    unfold mkO at hp
    split at hp
    · cases hp
    · have := hhm p (of_decide_eq_true hp).1
      exact hr this
/-- the first beat that is kept, among those below t -/
def FirB (A : Ar) (hm : List Int) (t : Nat) (p : Int) (o : Option Int) : Prop := match o with
  | none => ∀ k : Nat, k < t → ¬ Gk A hm k p (stA hm p)
  | some w => ∃ k : Nat, w = (k : Int) ∧ k < t ∧ Gk A hm k p (stA hm p) ∧ ∀ j : Nat, j < k → ¬ Gk A hm j p (stA hm p)
theorem fir_is {A : Ar} {hm : List Int} (hG : ArG A) (hhm : ∀ x ∈ hm, 0 ≤ x ∧ x < (A.length : Int)) {b : Tl} {p : Int} {o : Option Int} (hb1 : ∀ k : Nat, k < A.length → (Gk A hm k p (stA hm p) ↔ ∃ w, b p = some w ∧ w ≤ (k : Int))) (hb2 : ∀ w, b p = some w → 0 ≤ w ∧ w < (A.length : Int)) (p0 : 0 ≤ p) (p1 : p < (A.length : Int)) (h : FirB A hm (A.length + 1) p o) : o = b p := by
  have htop : Gk A hm A.length p (stA hm p) → ∃ k : Nat, k < A.length ∧ Gk A hm k p (stA hm p) := fun hk => by
    obtain ⟨n, hn⟩ : ∃ n, A.length = n + 1 := ⟨A.length - 1, by omega⟩
    rw [hn] at hk
    exact ⟨n, by omega, gk_top hG hhm hn hk⟩
  cases hb : b p with
  | none =>
    cases o with
    | none => rfl
    | some w =>
      obtain ⟨k, rfl, hk, hg, hmin⟩ := h
      exfalso
      by_cases hkl : k < A.length
      · obtain ⟨w, e, _⟩ := (hb1 k hkl).mp hg
        rw [hb] at e
        cases e
      · have : k = A.length := by omega
        rw [this] at hg
        obtain ⟨j, hj, hgj⟩ := htop hg
        exact hmin j (by omega) hgj
  | some v =>
    obtain ⟨v0, v1⟩ := hb2 v hb
    have hgv : Gk A hm v.toNat p (stA hm p) := (hb1 v.toNat (by omega)).mpr ⟨v, hb, by omega⟩
    cases o with
    | none => exact absurd hgv (h v.toNat (by omega))
    | some w =>
      obtain ⟨k, rfl, hk, hg, hmin⟩ := h
      by_cases hkv : v.toNat < k
      · exact absurd hgv (hmin _ hkv)
      · obtain ⟨w, e, hw⟩ := (hb1 k (by omega)).mp hg
        rw [hb] at e
        cases e
        congr 1
        omega
end NL

set_option maxHeartbeats 8000000
namespace NL
open PySem PySem.Spec PyProof.Rows L2
theorem nxR_mod {n : Nat} {k : Nat} (h : k < n) : ((0 : Int) + (k : Int) + 1) % (n : Int) = nxR n (k : Int) := by
  unfold nxR
  rw [Int.zero_add]
  by_cases e : (k : Int) + 1 = (n : Int)
  · rw [if_pos e, e, Int.emod_self]
  · rw [if_neg e, Int.emod_eq_of_lt (by omega) (by omega)]
theorem rgA_good {n : Nat} (n2 : 2 ≤ n) (n3 : n ≤ 12) : ArG (rgA n) := by
  refine ⟨by rw [rgA_len]; omega, fun os hos => ?_⟩
  obtain ⟨k, hk, e⟩ := List.mem_map.mp hos
  have hk := List.mem_range.mp hk
  subst e
  refine ⟨by simp, fun o ho => ?_⟩
  rw [List.mem_singleton.mp ho, rgA_len]
  exact OptG.one (by unfold nxR; split <;> omega) (by unfold nxR; split <;> omega)
theorem tlV_all {n : Nat} {b : Tl} {v : Int} (h : ∀ p : Int, 0 ≤ p → p < (n : Int) → b p = some v) : tlV n b = ((List.replicate n v).map V.int) := by
  unfold tlV
  rw [List.map_replicate]
  refine List.eq_replicate_iff.mpr ⟨by rw [List.length_map, List.length_range], fun x hx => ?_⟩
  obtain ⟨k, hk, e⟩ := List.mem_map.mp hx
  have hk := List.mem_range.mp hk
  rw [← e, h (k : Int) (by omega) (by omega)]
  rfl
theorem rep_flat (n : Nat) (v : Int) : (List.replicate n [V.int v]).flatten = (List.replicate n v).map V.int := by
  induction n with
  | zero => rfl
  | succ n ih =>
    rw [List.replicate_succ, List.replicate_succ, List.flatten_cons, ih]
    rfl
section
variable {P : Program} {w : World} {K : PySem.W.Frag} {mg : Str → Option Value} {base : Heap}
def spRingR (Pt : Addr) : Sp := fun vs H Q _ => ∃ (n : Nat) (at_ : Int), vs = [.int (n : Int), .int at_] ∧ 2 ≤ n ∧ n ≤ 12 ∧ 0 ≤ at_ ∧ at_ < (n : Int) ∧ GxR.TabG H Pt ∧ ∀ H', Q (.bl true) H'
theorem ok_law_ring_right (T : Txt K mg) {c Pt : Addr} (TB : GxR.TabB base mg c Pt) (hc : T.dforces.code = .ref c) : FnOk P w K mg base CX0 8 T.a_law_ring_right T.d_law_ring_right P_law_ring_right (spRingR Pt) := by
  have Gleast_beats := ok_least_beats (P := P) (w := w) T TB hc
  refine T.F_law_ring_right.ok sc_law_ring_right (fun vs H Q E h => ?_) (fun cdv A outer s H vs Q E hr h => ?_)
  · obtain ⟨n, at_, rfl, _⟩ := h
    rfl
  obtain ⟨n, at_, rfl, n2, n12, a0, a1, hT, q⟩ := h
  refine ⟨_, (pss_cons (ps_set (i := 2) sc_law_ring_right.nd rfl (Or.inl rfl) (pe_callTy call_tuple_of (by rfl) T.z_tuple (by decide +kernel) (pa_cons (pe_lc (own := [("k", 3)]) (g := (gName 3)) (tt := tYes) rfl sc_law_ring_right.nd (pi_range1 (by rfl) T.z_range (pa_cons (pv 0) pa_nil)) (blkOk_by (N := N_law_ring_right) (sc := defScope s_law_ring_right) (by decide +kernel)) (fun _ _ _ _ _ => (pg_name (i := 3) sc_law_ring_right.nd rfl (Or.inl rfl))) (fun _ _ _ _ _ => pts_nil) (fun _ _ _ _ _ => (pe_tup (pa_cons (pe_tup (pa_cons (pe_op op_mod (pe_callTy call_int1 (by rfl) T.z_int (by decide +kernel) (pa_cons (pe_op op_add (pv 3) pe_int) pa_nil)) (pv 0)) pa_nil)) pa_nil)))) pa_nil)))
    (pss_one (ps_ret (pe_cmpR (op_eqD hr.units) (pe_call Gleast_beats (hr.mono (by omega)) (by rfl) T.mleast_beats T.Fleast_beats.kp T.bleast_beats .nil pass0 (pa_cons (pv 2) (pa_cons (pe_tup (pa_cons (pv 1) pa_nil)) pa_nil))) (pe_op op_repT (pe_tup (pa_cons (pe_op op_sub (pv 0) pe_int) pa_nil)) (pv 0)) (nomark _))))), ?_⟩
  refine ⟨_, rfl, _, rfl, by omega, by omega, fun D hD => ?_⟩
  refine lc_range (lo := 0) (n := ((n : Nat) : Int).toNat) (fun (i : Nat) (H' : Hp) => Same H H' ∧ ∃ zs : List V, H' D = some (.lst zs) ∧ Each (PosIn H') ((List.range i).map fun k : Nat => [[nxR n (k : Int)]]) zs) ?_ ?_ ?_
  · exact ⟨same_new hD _, [], upd_same, .nil⟩
  · rintro i H1 hi ⟨s1, zs, k1, hzs⟩
    have hzl := hzs.1
    rw [List.length_map, List.length_range] at hzl
    refine ⟨rfl, yes_if ?_⟩
    refine ⟨_, rfl, _, _, rfl, rfl, .inl ⟨_, rfl, _, rfl, _, _, rfl, rfl, by show (0 : Int) < (n : Int); omega, Nat.le_of_ble_eq_true rfl, fun t1 ht1 => ?_⟩⟩
    dsimp only
    rw [nxR_mod (show i < n by omega)]
    obtain ⟨H2, e2, s2, k2⟩ := newH ht1 (.tup [V.int (nxR n (i : Int))])
    rw [e2]
    refine ⟨Nat.le_of_ble_eq_true rfl, fun t2 ht2 => ?_⟩
    obtain ⟨H3, e3, s3, k3⟩ := newH ht2 (.tup [V.ref t1])
    rw [e3]
    have s13 := s2.trans s3
    have k13 := s13 _ _ k1
    have hne : t2 ≠ D := fun e => by rw [e, s2 _ _ k1] at ht2; cases ht2
    have hne1 : t1 ≠ D := fun e => by rw [e, k1] at ht1; cases ht1
    refine ⟨zs, k13, big' (by omega), same_put (s1.trans s13) hD, zs ++ [.ref t2], upd_same, ?_⟩
    rw [List.range_succ, List.map_append]
    refine (hzs.mono fun o x => PosIn.tp (tp_put (Tp.same s13) k13)).snoc ⟨t2, [.ref t1], rfl, by rw [upd_ne hne]; exact k3, .cons ⟨t1, rfl, by rw [upd_ne hne1]; exact s3 _ _ k2⟩ .nil⟩
  rintro H1 ⟨s1, zs, k1, hzs⟩
  rw [show ((n : Nat) : Int).toNat = n by omega] at hzs
  have hzs : Each (PosIn H1) (rgA n) zs := hzs
  refine ⟨D, _, rfl, .inl ⟨sqd k1, fun b0 hb0 => ?_⟩⟩
  obtain ⟨H2, e2, s2, k2⟩ := newH hb0 (.tup zs)
  rw [e2]
  refine ⟨_, rfl, _, rfl, Nat.le_of_ble_eq_true rfl, fun hp hhp => ?_⟩
  obtain ⟨H3, e3, s3, k3⟩ := newH hhp (.tup [V.int at_])
  rw [e3]
  have s03 := (s1.trans s2).trans s3
  refine ⟨.ref b0, rgA n, hp, [at_], rfl, ⟨b0, zs, rfl, s3 _ _ k2, hzs.mono fun o x => PosIn.tp (Tp.same (s2.trans s3))⟩, rgA_good n2 n12, k3, fun x hx => by rw [List.mem_singleton.mp hx, rgA_len]; exact ⟨a0, a1⟩, by simp, TabG.same hT s03, fun p b H4 s4 _ kp hb1 hb2 => ?_⟩
  rw [rgA_len] at kp hb1 hb2
  have hall : ∀ p : Int, 0 ≤ p → p < (n : Int) → b p = some ((n : Int) - 1) := fun p p0 p1 => by
    obtain ⟨v, hv, hvl⟩ := (hb1 (n - 1) (by omega) p p0 p1).mp (ring_yes n2 a0 a1 p0 p1)
    obtain ⟨v0, v1⟩ := hb2 p v hv
    have := ring_no (k := v.toNat) n2 a0 a1 p0 p1 ((hb1 v.toNat (by omega) p p0 p1).mpr ⟨v, hv, by omega⟩)
    rw [hv]
    congr 1
    omega
  rw [tlV_all hall] at kp
  refine ⟨_, rfl, _, _, rfl, rfl, Nat.le_of_ble_eq_true rfl, fun tp htp => ?_⟩
  obtain ⟨H5, e5, s5, k5⟩ := newH htp (.tup [V.int ((n : Int) - 1)])
  rw [e5]
  refine ⟨_, rfl, tp, _, _, rfl, rfl, sqt k5, List.cons_ne_nil _ _, by omega, by omega, by show 1 ≤ 1000; omega, fun q1 hq1 => ?_⟩
  rw [show ((n : Nat) : Int).toNat = n by omega, rep_flat]
  obtain ⟨H6, e6, s6, k6⟩ := newH hq1 (.tup ((List.replicate n ((n : Int) - 1)).map V.int))
  rw [e6]
  refine ⟨dpG (List.replicate n ((n : Int) - 1)), dpG (List.replicate n ((n : Int) - 1)), .tup (sqt (s6 _ _ (s5 _ _ kp))) (dp_intsR _), .tup (sqt k6) (dp_intsR _), shaped_G _, shaped_G _, ?_⟩
  rw [eqv_G, decide_eq_true rfl]
  exact q _
def spInt33 : Sp := fun vs H Q _ => ∃ i : Int, vs = [.int i] ∧ Q (.bl true) H
theorem ok_law_is_integer (T : Txt K mg) : FnOk P w K mg base CX0 1 T.a_law_is_integer T.d_law_is_integer P_law_is_integer spInt33 := by
  refine T.F_law_is_integer.ok sc_law_is_integer (fun vs H Q E h => ?_) (fun cdv A outer s H vs Q E hr h => ?_)
  · obtain ⟨i, rfl, _⟩ := h
    rfl
  obtain ⟨i, rfl, q⟩ := h
  refine ⟨_, (pss_one (ps_ret (pe_and (pe_callB (call_isi) (by rfl) T.z_isinstance (by decide +kernel) (pa_cons (pv 0) (pa_cons (pe_bltn (v := .ty "int") (u := .type "int") (by rfl) T.z_int (by decide +kernel) rfl) pa_nil))) (pe_one (pe_not (pe_callB (call_isi) (by rfl) T.z_isinstance (by decide +kernel) (pa_cons (pv 0) (pa_cons (pe_bltn (v := .ty "bool") (u := .type "bool") (by rfl) T.z_bool (by decide +kernel) rfl) pa_nil)))))))), ?_⟩
  refine ⟨_, rfl, _, _, .type "int", .type "int", true, rfl, .ty "int", .base (.int _), kit_ty (by decide +kernel), true, rfl, ifT rfl ?_⟩
  refine ⟨_, rfl, _, _, .type "int", .type "bool", false, rfl, .ty "bool", .base (.int _), kit_ty (by decide +kernel), false, rfl, ?_⟩
  exact q
theorem ok_law (T : Txt K mg) {c Pt : Addr} (TB : GxR.TabB base mg c Pt) (hc : T.dforces.code = .ref c) : FnOk P w K mg base CX0 9 T.alaw T.dlaw Plaw (spLawT K Pt) := by
  have G_law_draws := ok_law_draws (P := P) (w := w) (base := base) T
  have G_law_take := ok_law_take (P := P) (w := w) (base := base) T
  have G_law_arena := ok_law_arena (P := P) (w := w) (base := base) T
  have G_law_some := ok_law_some (P := P) (w := w) (base := base) T
  have G_law_kept := ok_law_kept (P := P) (w := w) (base := base) T
  have G_law_is_integer := ok_law_is_integer (P := P) (w := w) (base := base) T
  have G_law_ring_right := ok_law_ring_right (P := P) (w := w) T TB hc
  have Gleast_beats := ok_least_beats (P := P) (w := w) T TB hc
  refine T.Flaw.ok sclaw (fun vs H Q E h => ?_) (fun cdv A outer s H vs Q E hr h => ?_)
  · obtain ⟨a, ns, rfl, _⟩ := h
    rfl
  obtain ⟨a, ns, rfl, hSq, hl, hT, q⟩ := h
  refine ⟨_, (pss_cons (ps_set (i := 1) sclaw.nd rfl (Or.inl rfl) (pe_call G_law_draws (hr.mono (by omega)) (by rfl) T.m_law_draws T.F_law_draws.kp T.b_law_draws .nil pass0 (pa_cons (pv 0) (pa_cons pe_int pa_nil))))
    (pss_cons (ps_if (pt_cmpR op_eq (pe_call G_law_take (hr.mono (by omega)) (by rfl) T.m_law_take T.F_law_take.kp T.b_law_take .nil pass0 (pa_cons (pv 1) (pa_cons pe_int pa_nil))) pe_int (nomark _))
    (pss_cons (ps_set (i := 2) sclaw.nd rfl (Or.inl rfl) (pe_op op_add pe_int (pe_call G_law_take (hr.mono (by omega)) (by rfl) T.m_law_take T.F_law_take.kp T.b_law_take .nil pass0 (pa_cons (pv 1) (pa_cons pe_int pa_nil)))))
    (pss_one (ps_ret (pe_call G_law_ring_right (hr.mono (by omega)) (by rfl) T.m_law_ring_right T.F_law_ring_right.kp T.b_law_ring_right .nil pass0 (pa_cons (pv 2) (pa_cons (pe_call G_law_take (hr.mono (by omega)) (by rfl) T.m_law_take T.F_law_take.kp T.b_law_take .nil pass0 (pa_cons (pv 1) (pa_cons (pv 2) pa_nil))) pa_nil))))))
    pss_nil)
    (pss_cons (ps_set (i := 3) sclaw.nd rfl (Or.inl rfl) (pe_call G_law_arena (hr.mono (by omega)) (by rfl) T.m_law_arena T.F_law_arena.kp T.b_law_arena .nil pass0 (pa_cons (pv 1) (pa_cons (pe_ix ix_list (pe_lst (pa_cons pe_int (pa_cons pe_int (pa_cons pe_int (pa_cons pe_int pa_nil))))) (pe_call G_law_take (hr.mono (by omega)) (by rfl) T.m_law_take T.F_law_take.kp T.b_law_take .nil pass0 (pa_cons (pv 1) (pa_cons pe_int pa_nil))) (fun _ _ => rfl)) pa_nil))))
    (pss_cons (ps_set (i := 4) sclaw.nd rfl (Or.inl rfl) (pe_call G_law_some (hr.mono (by omega)) (by rfl) T.m_law_some T.F_law_some.kp T.b_law_some .nil pass0 (pa_cons (pv 1) (pa_cons (pe_callB call_len_seq (by rfl) T.z_len PySem.boot_len (pa_cons (pv 3) pa_nil)) (pa_cons (pe_ix ix_list (pe_lst (pa_cons pe_int (pa_cons pe_int (pa_cons pe_int pa_nil)))) (pe_call G_law_take (hr.mono (by omega)) (by rfl) T.m_law_take T.F_law_take.kp T.b_law_take .nil pass0 (pa_cons (pv 1) (pa_cons pe_int pa_nil))) (fun _ _ => rfl)) pa_nil)))))
    (pss_cons (ps_setLc (i := 5) (own := [("options", 6)]) (g := (gName 6)) (tt := tYes) rfl sclaw.nd rfl rfl (sw_true rfl rfl rfl (by decide +kernel)) (pi_tup (pv 3)) (blkOk_by (N := Nlaw) (sc := defScope slaw) (by decide +kernel)) (fun _ _ _ _ _ => (pg_name (i := 6) sclaw.nd rfl (Or.inl rfl))) (fun _ _ _ _ _ => pts_nil) (fun _ _ _ _ _ => pe_non))
    (pss_cons (ps_for  PassesOwn.never rfl (pi_range1 (by rfl) T.z_range (pa_cons (pe_op op_add (pe_callB call_len_seq (by rfl) T.z_len PySem.boot_len (pa_cons (pv 3) pa_nil)) pe_int) pa_nil)) (pg_name (i := 7) sclaw.nd rfl (Or.inl rfl))
    (pss_cons (ps_set (i := 8) sclaw.nd rfl (Or.inl rfl) (pe_call G_law_kept (hr.mono (by omega)) (by rfl) T.m_law_kept T.F_law_kept.kp T.b_law_kept .nil pass0 (pa_cons (pv 3) (pa_cons (pv 4) (pa_cons (pv 7) pa_nil)))))
    (pss_one (ps_for  PassesOwn.never rfl (pi_range1 (by rfl) T.z_range (pa_cons (pe_callB call_len_seq (by rfl) T.z_len PySem.boot_len (pa_cons (pv 3) pa_nil)) pa_nil)) (pg_name (i := 9) sclaw.nd rfl (Or.inl rfl))
    (pss_one (ps_if (PW.pt (pw_and (pt_cmpR op_isN (pe_ix ix_list (pv 5) (pv 9) (fun _ _ => rfl)) pe_non (nomark _)) (pw_and1 (pt_cmpR (op_inD (hu65_of hr)) (pe_tup (pa_cons (pv 9) (pa_cons (pe_callTy call_int1 (by rfl) T.z_int (by decide +kernel) (pa_cons (pe_cmpR op_notIn_seq (pv 9) (pv 4) (by rfl)) pa_nil)) pa_nil))) (pv 8) (by rfl)))))
    (pss_one (ps_asg (pv 7) (pg_sub (pv 5) (pv 9) set_list)))
    pss_nil))))))
    (pss_cons (ps_set (i := 10) sclaw.nd rfl (Or.inl rfl) (pe_call Gleast_beats (hr.mono (by omega)) (by rfl) T.mleast_beats T.Fleast_beats.kp T.bleast_beats .nil pass0 (pa_cons (pv 3) (pa_cons (pv 4) pa_nil))))
    (pss_cons (ps_if (PW.pt (pw_or (pt_not (pt_val (pe_callB (call_isi) (by rfl) T.z_isinstance (by decide +kernel) (pa_cons (pv 10) (pa_cons (pe_bltn (v := .ty "tuple") (u := .type "tuple") (by rfl) T.z_tuple (by decide +kernel) rfl) pa_nil))))) (pw_or1 (pt_cmpR op_ne (pe_callB call_len_seq (by rfl) T.z_len PySem.boot_len (pa_cons (pv 10) pa_nil)) (pe_callB call_len_seq (by rfl) T.z_len PySem.boot_len (pa_cons (pv 3) pa_nil)) (nomark _)))))
    (pss_one (ps_ret pe_bl))
    pss_nil)
    (pss_cons (ps_for  PassesOwn.never rfl (pi_range1 (by rfl) T.z_range (pa_cons (pe_callB call_len_seq (by rfl) T.z_len PySem.boot_len (pa_cons (pv 3) pa_nil)) pa_nil)) (pg_name (i := 9) sclaw.nd rfl (Or.inl rfl))
    (pss_one (ps_if (pt_cmpR op_isN (pe_ix ix_list (pv 5) (pv 9) (fun _ _ => rfl)) pe_non (nomark _))
    (pss_one (ps_if (pt_cmpR op_notN (pe_ix ix_tup (pv 10) (pv 9) (fun _ _ => rfl)) pe_non (nomark _))
    (pss_one (ps_ret pe_bl))
    pss_nil))
    (pss_one (ps_if (PW.pt (pw_or (pt_not (pt_val (pe_call G_law_is_integer (hr.mono (by omega)) (by rfl) T.m_law_is_integer T.F_law_is_integer.kp T.b_law_is_integer .nil pass0 (pa_cons (pe_ix ix_tup (pv 10) (pv 9) (fun _ _ => rfl)) pa_nil)))) (pw_or1 (pt_cmpR op_ne (pe_ix ix_tup (pv 10) (pv 9) (fun _ _ => rfl)) (pe_ix ix_list (pv 5) (pv 9) (fun _ _ => rfl)) (nomark _)))))
    (pss_one (ps_ret pe_bl))
    pss_nil)))))
    (pss_one (ps_ret pe_bl))))))))))), ?_⟩
  refine ⟨_, rfl, a, ns, 420, rfl, hSq, hl, by decide, by decide, fun d H1 s1 hd D1 => ?_⟩
  have hT1 := TabG.same hT s1
  refine ⟨_, rfl, d, 10, rfl, D1, by decide, fun u H2 g2 u0 u1 => ⟨rfl, _, rfl, ?_⟩⟩
  refine ite2 (fun z => ?_) (fun z => ?_)
  · refine ⟨_, rfl, d, 6, rfl, g2.dr, by decide, fun u2 H3 g3 a0 a1 => ⟨_, _, rfl, rfl, ?_⟩⟩
    dsimp only
    obtain ⟨n, hn⟩ : ∃ n : Nat, 7 + u2 = (n : Int) := ⟨(7 + u2).toNat, by omega⟩
    rw [hn]
    refine ⟨_, rfl, _, rfl, _, rfl, d, (n : Int), rfl, g3.dr, by omega, fun at_ H4 g4 b0 b1 => ?_⟩
    exact ⟨n, at_, rfl, by omega, by omega, b0, b1, (g2.trans (g3.trans g4)).tab D1 hT1, fun H' => q H'⟩
  refine ⟨_, rfl, Nat.le_of_ble_eq_true rfl, fun ml hml => ?_⟩
  obtain ⟨H3, e3, s3, k3⟩ := newH hml (.lst (([2, 4, 5, 6] : List Int).map V.int))
  rw [show upd H2 ml (.lst [V.int 2, V.int 4, V.int 5, V.int 6]) = H3 from e3]
  have g3 : Go d H2 H3 := Go.same g2.dr s3
  have hmd : ml ≠ d := fun e => by
    obtain ⟨x, hx⟩ := g2.dr
    rw [e, hx] at hml
    cases hml
  refine ⟨_, rfl, d, 4, rfl, g3.dr, by decide, fun u3 H4 g4 b0' b1' => ?_⟩
  have k4 := g4.fr ml _ hmd k3
  obtain ⟨m, hm, hmm⟩ := atI_map (f := V.int) (xs := ([2, 4, 5, 6] : List Int)) b0' b1'
  have hmb : 2 ≤ m ∧ m ≤ 6 := by
    simp only [List.mem_cons, List.not_mem_nil, or_false] at hmm
    omega
  refine ⟨ml, _, _, _, rfl, rfl, sqd k4, hm, ?_⟩
  refine ⟨d, m, rfl, g4.dr, by omega, by omega, fun v A0 H5 g5 hA hG => ?_⟩
  obtain ⟨b0, xs, rfl, e0, hxs⟩ := id hA
  have hxl := hxs.1
  have hn4 := hG.1
  refine ⟨_, rfl, _, rfl, b0, _, rfl, .inr (sqt e0), Nat.le_of_ble_eq_true rfl, fun ml2 hml2 => ?_⟩
  obtain ⟨H6, e6, s6, k6⟩ := newH hml2 (.lst (([2, 4, 7] : List Int).map V.int))
  rw [show upd H5 ml2 (.lst [V.int 2, V.int 4, V.int 7]) = H6 from e6]
  have g6 : Go d H5 H6 := Go.same g5.dr s6
  have hmd2 : ml2 ≠ d := fun e => by
    obtain ⟨x, hx⟩ := g5.dr
    rw [e, hx] at hml2
    cases hml2
  refine ⟨_, rfl, d, 3, rfl, g6.dr, by decide, fun u4 H7 g7 c0 c1 => ?_⟩
  obtain ⟨m2, hm2, hmm2⟩ := atI_map (f := V.int) (xs := ([2, 4, 7] : List Int)) c0 c1
  refine ⟨ml2, _, _, _, rfl, rfl, sqd (g7.fr ml2 _ hmd2 k6), hm2, ?_⟩
  refine ⟨d, _, m2, rfl, g7.dr, by omega, by omega, fun hp hm H8 g8 khp hhm hhl => ?_⟩
  rw [hxl] at hhm
  have g58 := (g6.trans g7).trans g8
  have hA8 := hA.tp (g58.tp g5.dr)
  have e08 := g58.tp g5.dr _ _ e0
  have hT8 : GxR.TabG H8 Pt := (((g2.trans g3).trans g4).trans (g5.trans g58)).tab D1 hT1
  refine ⟨_, rfl, b0, rfl, ⟨_, sqt e08⟩, fun D hD => ?_⟩
  refine lc_tup (K := K) (a := b0) (xs := xs) (fun (t : Nat) (H' : Hp) => Same H8 H' ∧ H' D = some (.lst (List.replicate t V.non))) ?_ ?_ ?_ ?_
  · exact ⟨same_new hD _, upd_same⟩
  · rintro t H' _ ⟨s, _⟩
    exact sqt (s _ _ e08)
  · rintro t x H9 hx ⟨s9, k9⟩
    have htl := (List.getElem?_eq_some_iff.mp hx).1
    refine ⟨rfl, yes_if ?_⟩
    refine ⟨_, k9, big' (by rw [List.length_replicate]; omega), same_put s9 hD, ?_⟩
    rw [upd_same, List.replicate_succ']
  rintro H9 ⟨s9, k9⟩
  have hrep : List.replicate xs.length V.non = tlV A0.length fun _ => none := by
    rw [hxl]
    unfold tlV
    exact (List.eq_replicate_iff.mpr ⟨by rw [List.length_map, List.length_range], fun x hx => by
      obtain ⟨k, _, e⟩ := List.mem_map.mp hx
      rw [← e]
      rfl⟩).symm
  rw [hrep] at k9
  refine ⟨_, rfl, b0, _, rfl, .inr (sqt (s9 _ _ e08)), _, _, rfl, rfl, _, rfl, by omega, by omega, for_range (lo := 0) (n := (((xs.length : Nat) : Int) + 1).toNat) (fun (t : Nat) (σ : L2.St) (H' : Hp) => ∃ (Du : Tl) (y2 y6 y7 y8 y9 y10 : Option V), σ = [some (.ref a), some (.ref d), y2, some (.ref b0), some (.ref hp), some (.ref D), y6, y7, y8, y9, y10] ∧ Same H8 H' ∧ H' D = some (.lst (tlV A0.length Du)) ∧ ∀ p : Int, 0 ≤ p → p < (A0.length : Int) → FirB A0 hm t p (Du p)) ?_ ?_ ?_⟩
  · exact ⟨fun _ => none, _, _, _, _, _, _, rfl, s9, k9, fun p _ _ k hk => absurd hk (Nat.not_lt_zero k)⟩
  · rintro t σ H10 ht ⟨Du, y2, y6, y7, y8, y9, y10, rfl, s10, kD, hF⟩
    rw [show (0 : Int) + (t : Int) = (t : Int) from Int.zero_add _]
    refine ⟨_, rfl, _, rfl, _, rfl, .ref b0, hp, A0, hm, t, rfl, hA8.tp (Tp.same s10), hG, hn4, s10 _ _ khp, by omega, fun KD kzs L H11 s11 kKD hL hLk => ?_⟩
    refine ⟨_, rfl, b0, _, rfl, .inr (sqt ((s10.trans s11) _ _ e08)), _, rfl, by omega, by omega, for_range (lo := 0) (n := ((xs.length : Nat) : Int).toNat) (fun (j : Nat) (σ : L2.St) (H' : Hp) => ∃ (Dv : Tl) (y9 : Option V), σ = [some (.ref a), some (.ref d), y2, some (.ref b0), some (.ref hp), some (.ref D), y6, some (.int (t : Int)), some (.ref KD), y9, y10] ∧ Same H8 H' ∧ H' KD = some (.lst kzs) ∧ Each (OptIn H') (L.map pr) kzs ∧ H' D = some (.lst (tlV A0.length Dv)) ∧ (∀ p : Int, 0 ≤ p → p < (j : Int) → FirB A0 hm (t + 1) p (Dv p)) ∧ ∀ p : Int, (j : Int) ≤ p → p < (A0.length : Int) → FirB A0 hm t p (Dv p)) ?_ ?_ ?_⟩
    · exact ⟨Du, _, rfl, s10.trans s11, kKD, hL, s11 _ _ kD, fun p p0 p1 => by omega, fun p p0 p1 => hF p (by omega) p1⟩
    · rintro j σ H12 hj ⟨Dv, y9, rfl, s12, kK, hLL, kD2, hFA, hFB⟩
      have hjn : j < A0.length := by omega
      have hFj := hFB (j : Int) (Int.le_refl _) (by omega)
      have hKD : KD ≠ D := fun e => by
        rw [e, kD2] at kK
        cases kK
        have h1 := hLL.1
        rw [tlV_len, List.length_map] at h1
        obtain ⟨q0, hq0⟩ : ∃ q0, L[j]? = some q0 := ⟨_, List.getElem?_eq_getElem (by omega)⟩
        obtain ⟨tt, htt, _⟩ := hLL.2 j (pr q0) _ (by rw [List.getElem?_map, hq0]; rfl) (tlV_at hjn)
        cases hd : Dv (j : Int) <;> rw [hd] at htt <;> cases htt
      rw [show (0 : Int) + (j : Int) = (j : Int) from Int.zero_add _]
      have stay : ∀ H', Same H8 H' → H' KD = some (.lst kzs) → Each (OptIn H') (L.map pr) kzs → H' D = some (.lst (tlV A0.length Dv)) → FirB A0 hm (t + 1) (j : Int) (Dv (j : Int)) → ∃ (Dw : Tl) (z9 : Option V), [some (.ref a), some (.ref d), y2, some (.ref b0), some (.ref hp), some (.ref D), y6, some (.int (t : Int)), some (.ref KD), some (V.int (j : Int)), y10] = [some (.ref a), some (.ref d), y2, some (.ref b0), some (.ref hp), some (.ref D), y6, some (.int (t : Int)), some (.ref KD), z9, y10] ∧ Same H8 H' ∧ H' KD = some (.lst kzs) ∧ Each (OptIn H') (L.map pr) kzs ∧ H' D = some (.lst (tlV A0.length Dw)) ∧ (∀ p : Int, 0 ≤ p → p < ((j + 1 : Nat) : Int) → FirB A0 hm (t + 1) p (Dw p)) ∧ ∀ p : Int, ((j + 1 : Nat) : Int) ≤ p → p < (A0.length : Int) → FirB A0 hm t p (Dw p) := fun H' h1 h2 h3 h4 h5 =>
        ⟨Dv, _, rfl, h1, h2, h3, h4, fun p p0 p1 => by
          by_cases e : p = (j : Int)
          · rw [e]
            exact h5
          · exact hFA p p0 (by omega), fun p p0 p1 => hFB p (by omega) p1⟩
      refine ⟨_, rfl, _, rfl, D, _, _, _, rfl, rfl, sqd kD2, tlV_get (by omega) (by omega), rfl, _, rfl, ?_⟩
      cases hDj : Dv (j : Int) with
      | some w =>
        refine ifF rfl (iteF (stay H12 s12 kK hLL kD2 ?_))
        rw [hDj] at hFj ⊢
        obtain ⟨k, e, hk, hg, hmin⟩ := hFj
        exact ⟨k, e, by omega, hg, hmin⟩
      | none =>
        rw [hDj] at hFj
        refine ifT rfl ?_
        refine ⟨_, rfl, _, rfl, _, rfl, hp, _, rfl, .inr (sqt (s12 _ _ khp)), rfl, flat_ints' _, .inr ⟨_, rfl, ?_⟩⟩
        rw [notIn_int]
        have hst : (if (!decide ((j : Int) ∈ hm)) = true then (1 : Int) else 0) = stA hm (j : Int) := by
          unfold stA
          by_cases h : (j : Int) ∈ hm
          · rw [if_pos h, decide_eq_true h]
            rfl
          · rw [if_neg h, decide_eq_false h]
            rfl
        rw [hst]
        refine ⟨Nat.le_of_ble_eq_true rfl, fun tq htq => ?_⟩
        obtain ⟨H13, e13, s13, k13⟩ := newH htq (.tup [V.int (j : Int), V.int (stA hm (j : Int))])
        rw [e13]
        have hLL3 := hLL.mono fun o x => OptIn.tp (Tp.same s13)
        refine ⟨_, rfl, dpG [(j : Int), stA hm (j : Int)], _, .tup (sqt k13) (dp_intsR [(j : Int), stA hm (j : Int)]), .lst (sqd (s13 _ _ kK)) (dp_Gs hLL3), shaped_G _, shaped_Gs _, _, rfl, ?_⟩
        rw [any_Gs]
        by_cases h2 : ((j : Int), stA hm (j : Int)) ∈ L
        · refine ifT (decide_eq_true (mem_pr.mpr h2)) ?_
          have kD3 := s13 _ _ kD2
          refine ⟨_, rfl, _, rfl, _, rfl, D, _, _, _, rfl, rfl, kD3, ixN_in (by omega) (by rw [tlV_len]; omega), ?_⟩
          refine ⟨setT Dv (j : Int) (some (t : Int)), _, rfl, same_put (s12.trans s13) hD, by rw [upd_ne hKD]; exact s13 _ _ kK, hLL3.mono fun o x => OptIn.tp (tp_put Tp.refl kD3), ?_, fun p p0 p1 => ?_, fun p p0 p1 => ?_⟩
          · rw [upd_same, Int.toNat_natCast, show V.int (t : Int) = ovV (some (t : Int)) from rfl, tlV_set hjn]
          · by_cases e : p = (j : Int)
            · rw [e, setT_same]
              exact ⟨t, rfl, by omega, (hLk _ _).mp h2, hFj⟩
            · rw [setT_ne e]
              exact hFA p p0 (by omega)
          · rw [setT_ne (by omega)]
            exact hFB p (by omega) p1
        · refine ifF (decide_eq_false fun e => h2 (mem_pr.mp e)) (stay H13 (s12.trans s13) (s13 _ _ kK) hLL3 (s13 _ _ kD2) ?_)
          rw [hDj]
          intro k hk
          by_cases e : k = t
          · rw [e]
            exact fun hg => h2 ((hLk _ _).mpr hg)
          · exact hFj k (by omega)
    · rintro σ H12 ⟨Dv, y9, rfl, s12, _, _, kD2, hFA, _⟩
      exact ⟨Dv, _, _, _, _, _, _, rfl, s12, kD2, fun p p0 p1 => hFA p p0 (by omega)⟩
  rintro σ H10 ⟨Du, y2, y6, y7, y8, y9, y10, rfl, s10, kD, hF⟩
  rw [show (((xs.length : Nat) : Int) + 1).toNat = A0.length + 1 by omega] at hF
  refine ⟨_, rfl, _, rfl, .ref b0, A0, hp, hm, rfl, hA8.tp (Tp.same s10), hG, s10 _ _ khp, hhm, by omega, TabG.same hT8 s10, fun ap b H11 m11 _ kap hb1 hb2 => ?_⟩
  have hfir : ∀ p : Int, 0 ≤ p → p < (A0.length : Int) → Du p = b p := fun p p0 p1 => fir_is hG hhm (fun k hk => hb1 k hk p p0 p1) (hb2 p) p0 p1 (hF p p0 p1)
  have kD11 := m11.lst kD
  have e011 := m11.tup (s10 _ _ e08)
  refine ⟨_, rfl, _, _, .type "tuple", .type "tuple", true, rfl, .ty "tuple", .base (.tup kap), kit_ty (by decide +kernel), true, rfl, iteF ?_⟩
  refine ⟨_, rfl, ap, _, rfl, .inr (sqt kap), _, rfl, b0, _, rfl, .inr (sqt e011), rfl, _, rfl, ?_⟩
  refine ifF (by rw [decide_eq_true (by rw [tlV_len, hxl])]; rfl) ?_
  refine ⟨_, rfl, b0, _, rfl, .inr (sqt e011), _, rfl, by omega, by omega, for_range (lo := 0) (n := ((xs.length : Nat) : Int).toNat) (fun (j : Nat) (σ : L2.St) (H' : Hp) => ∃ (y9 : Option V), σ = [some (.ref a), some (.ref d), y2, some (.ref b0), some (.ref hp), some (.ref D), y6, y7, y8, y9, some (.ref ap)] ∧ H' = H11) ?_ ?_ ?_⟩
  · exact ⟨_, rfl, rfl⟩
  · rintro j σ H12 hj ⟨y9, rfl, rfl⟩
    have hjn : j < A0.length := by omega
    rw [show (0 : Int) + (j : Int) = (j : Int) from Int.zero_add _]
    have hatD := tlV_get (n := A0.length) (D := Du) (p := (j : Int)) (by omega) (by omega)
    have hatA := tlV_get (n := A0.length) (D := b) (p := (j : Int)) (by omega) (by omega)
    rw [hfir (j : Int) (by omega) (by omega)] at hatD
    cases hb : b (j : Int) with
    | none =>
      rw [hb] at hatD hatA
      refine ⟨_, rfl, _, rfl, D, _, _, _, rfl, rfl, sqd kD11, hatD, rfl, _, rfl, ?_⟩
      refine ifT rfl ?_
      refine ⟨_, rfl, _, rfl, ap, _, _, _, rfl, rfl, sqt kap, hatA, rfl, _, rfl, ?_⟩
      exact ifF rfl ⟨_, rfl, rfl⟩
    | some w =>
      rw [hb] at hatD hatA
      refine ⟨_, rfl, _, rfl, D, _, _, _, rfl, rfl, sqd kD11, hatD, rfl, _, rfl, ?_⟩
      refine ifF rfl ?_
      refine ⟨_, rfl, _, rfl, ap, _, _, _, rfl, rfl, sqt kap, hatA, w, rfl, true, rfl, ?_⟩
      refine ifF rfl ?_
      refine ⟨_, rfl, _, rfl, ap, _, _, _, rfl, rfl, sqt kap, hatA, _, rfl, _, rfl, D, _, _, _, rfl, rfl, sqd kD11, hatD, rfl, _, rfl, ?_⟩
      exact ifF (by rw [decide_eq_true rfl]; rfl) ⟨_, rfl, rfl⟩
  rintro σ H12 ⟨y9, rfl, rfl⟩
  exact q _
end
end NL

namespace NL
open PySem PySem.Spec PyProof.Rows L2
theorem all_mk {l : PySem.W.OpenLaw} {w : World} {K : PySem.W.Frag} {h : Heap} {mg : Str → Option Value} {fa fforces f_all_marked f_some_marked fsteps_to fleast_beats f_ranks_to f_need f_take_lesser f_law_draws f_law_take f_law_options f_law_distinct f_law_arena f_law_some f_law_is_integer f_law_kept f_law_ring_right flaw : Addr} (X : K.In h) (G : h.Ns mainGlobals mg) (hfa : mg "law" = some (.ref fa)) (own : ∀ f, mg "forces" = some (.ref f) → LamX.OwnTab K f h)
    {odforces anforces : Option Addr} {slforces : Array (Option Value)} {ocforces kVforces dcforces pmforces cdforces ctforces : Value}
    {od_all_marked an_all_marked : Option Addr} {sl_all_marked : Array (Option Value)} {oc_all_marked kV_all_marked dc_all_marked pm_all_marked cd_all_marked ct_all_marked : Value}
    {od_some_marked an_some_marked : Option Addr} {sl_some_marked : Array (Option Value)} {oc_some_marked kV_some_marked dc_some_marked pm_some_marked cd_some_marked ct_some_marked : Value}
    {odsteps_to ansteps_to : Option Addr} {slsteps_to : Array (Option Value)} {ocsteps_to kVsteps_to dcsteps_to pmsteps_to cdsteps_to ctsteps_to : Value}
    {odleast_beats anleast_beats : Option Addr} {slleast_beats : Array (Option Value)} {ocleast_beats kVleast_beats dcleast_beats pmleast_beats cdleast_beats ctleast_beats : Value}
    {od_ranks_to an_ranks_to : Option Addr} {sl_ranks_to : Array (Option Value)} {oc_ranks_to kV_ranks_to dc_ranks_to pm_ranks_to cd_ranks_to ct_ranks_to : Value}
    {od_need an_need : Option Addr} {sl_need : Array (Option Value)} {oc_need kV_need dc_need pm_need cd_need ct_need : Value}
    {od_take_lesser an_take_lesser : Option Addr} {sl_take_lesser : Array (Option Value)} {oc_take_lesser kV_take_lesser dc_take_lesser pm_take_lesser cd_take_lesser ct_take_lesser : Value}
    {od_law_draws an_law_draws : Option Addr} {sl_law_draws : Array (Option Value)} {oc_law_draws kV_law_draws dc_law_draws pm_law_draws cd_law_draws ct_law_draws : Value}
    {od_law_take an_law_take : Option Addr} {sl_law_take : Array (Option Value)} {oc_law_take kV_law_take dc_law_take pm_law_take cd_law_take ct_law_take : Value}
    {od_law_options an_law_options : Option Addr} {sl_law_options : Array (Option Value)} {oc_law_options kV_law_options dc_law_options pm_law_options cd_law_options ct_law_options : Value}
    {od_law_distinct an_law_distinct : Option Addr} {sl_law_distinct : Array (Option Value)} {oc_law_distinct kV_law_distinct dc_law_distinct pm_law_distinct cd_law_distinct ct_law_distinct : Value}
    {od_law_arena an_law_arena : Option Addr} {sl_law_arena : Array (Option Value)} {oc_law_arena kV_law_arena dc_law_arena pm_law_arena cd_law_arena ct_law_arena : Value}
    {od_law_some an_law_some : Option Addr} {sl_law_some : Array (Option Value)} {oc_law_some kV_law_some dc_law_some pm_law_some cd_law_some ct_law_some : Value}
    {od_law_is_integer an_law_is_integer : Option Addr} {sl_law_is_integer : Array (Option Value)} {oc_law_is_integer kV_law_is_integer dc_law_is_integer pm_law_is_integer cd_law_is_integer ct_law_is_integer : Value}
    {od_law_kept an_law_kept : Option Addr} {sl_law_kept : Array (Option Value)} {oc_law_kept kV_law_kept dc_law_kept pm_law_kept cd_law_kept ct_law_kept : Value}
    {od_law_ring_right an_law_ring_right : Option Addr} {sl_law_ring_right : Array (Option Value)} {oc_law_ring_right kV_law_ring_right dc_law_ring_right pm_law_ring_right cd_law_ring_right ct_law_ring_right : Value}
    {odlaw anlaw : Option Addr} {sllaw : Array (Option Value)} {oclaw kVlaw dclaw pmlaw cdlaw ctlaw : Value}
    {u_CONTROLLER : Value}
    {cF PF : Addr} {odF : Option Addr} {vsF : Array Value} {slF : Array (Option Value)} {xFile : Str} {xFlags xText : Int} {xIn : Bool} {xt1 xt2 xt3 : Tok}
    (aforces : PySem.W.nsIn K mainGlobals "forces" = some (some (.ref fforces))) (lforces : K.lookup fforces = some ⟨ocforces, odforces, .func (PySem.W.fnOf "forces" "forces" (defArgs sforces) (defBody sforces) (defScope sforces) .none kVforces dcforces pmforces anforces cdforces ctforces), slforces⟩) (cforces : PySem.W.codeIn K cdforces "forces" = true) (kforces : PySem.W.keepIn K (.ref fforces) = true)
    (a_all_marked : PySem.W.nsIn K mainGlobals "_all_marked" = some (some (.ref f_all_marked))) (l_all_marked : K.lookup f_all_marked = some ⟨oc_all_marked, od_all_marked, .func (PySem.W.fnOf "_all_marked" "_all_marked" (defArgs s_all_marked) (defBody s_all_marked) (defScope s_all_marked) .none kV_all_marked dc_all_marked pm_all_marked an_all_marked cd_all_marked ct_all_marked), sl_all_marked⟩) (c_all_marked : PySem.W.codeIn K cd_all_marked "_all_marked" = true) (k_all_marked : PySem.W.keepIn K (.ref f_all_marked) = true)
    (a_some_marked : PySem.W.nsIn K mainGlobals "_some_marked" = some (some (.ref f_some_marked))) (l_some_marked : K.lookup f_some_marked = some ⟨oc_some_marked, od_some_marked, .func (PySem.W.fnOf "_some_marked" "_some_marked" (defArgs s_some_marked) (defBody s_some_marked) (defScope s_some_marked) .none kV_some_marked dc_some_marked pm_some_marked an_some_marked cd_some_marked ct_some_marked), sl_some_marked⟩) (c_some_marked : PySem.W.codeIn K cd_some_marked "_some_marked" = true) (k_some_marked : PySem.W.keepIn K (.ref f_some_marked) = true)
    (asteps_to : PySem.W.nsIn K mainGlobals "steps_to" = some (some (.ref fsteps_to))) (lsteps_to : K.lookup fsteps_to = some ⟨ocsteps_to, odsteps_to, .func (PySem.W.fnOf "steps_to" "steps_to" (defArgs ssteps_to) (defBody ssteps_to) (defScope ssteps_to) .none kVsteps_to dcsteps_to pmsteps_to ansteps_to cdsteps_to ctsteps_to), slsteps_to⟩) (csteps_to : PySem.W.codeIn K cdsteps_to "steps_to" = true) (ksteps_to : PySem.W.keepIn K (.ref fsteps_to) = true)
    (aleast_beats : PySem.W.nsIn K mainGlobals "least_beats" = some (some (.ref fleast_beats))) (lleast_beats : K.lookup fleast_beats = some ⟨ocleast_beats, odleast_beats, .func (PySem.W.fnOf "least_beats" "least_beats" (defArgs sleast_beats) (defBody sleast_beats) (defScope sleast_beats) .none kVleast_beats dcleast_beats pmleast_beats anleast_beats cdleast_beats ctleast_beats), slleast_beats⟩) (cleast_beats : PySem.W.codeIn K cdleast_beats "least_beats" = true) (kleast_beats : PySem.W.keepIn K (.ref fleast_beats) = true)
    (a_ranks_to : PySem.W.nsIn K mainGlobals "_ranks_to" = some (some (.ref f_ranks_to))) (l_ranks_to : K.lookup f_ranks_to = some ⟨oc_ranks_to, od_ranks_to, .func (PySem.W.fnOf "_ranks_to" "_ranks_to" (defArgs s_ranks_to) (defBody s_ranks_to) (defScope s_ranks_to) .none kV_ranks_to dc_ranks_to pm_ranks_to an_ranks_to cd_ranks_to ct_ranks_to), sl_ranks_to⟩) (c_ranks_to : PySem.W.codeIn K cd_ranks_to "_ranks_to" = true) (k_ranks_to : PySem.W.keepIn K (.ref f_ranks_to) = true)
    (a_need : PySem.W.nsIn K mainGlobals "_need" = some (some (.ref f_need))) (l_need : K.lookup f_need = some ⟨oc_need, od_need, .func (PySem.W.fnOf "_need" "_need" (defArgs s_need) (defBody s_need) (defScope s_need) .none kV_need dc_need pm_need an_need cd_need ct_need), sl_need⟩) (c_need : PySem.W.codeIn K cd_need "_need" = true) (k_need : PySem.W.keepIn K (.ref f_need) = true)
    (a_take_lesser : PySem.W.nsIn K mainGlobals "_take_lesser" = some (some (.ref f_take_lesser))) (l_take_lesser : K.lookup f_take_lesser = some ⟨oc_take_lesser, od_take_lesser, .func (PySem.W.fnOf "_take_lesser" "_take_lesser" (defArgs s_take_lesser) (defBody s_take_lesser) (defScope s_take_lesser) .none kV_take_lesser dc_take_lesser pm_take_lesser an_take_lesser cd_take_lesser ct_take_lesser), sl_take_lesser⟩) (c_take_lesser : PySem.W.codeIn K cd_take_lesser "_take_lesser" = true) (k_take_lesser : PySem.W.keepIn K (.ref f_take_lesser) = true)
    (a_law_draws : PySem.W.nsIn K mainGlobals "_law_draws" = some (some (.ref f_law_draws))) (l_law_draws : K.lookup f_law_draws = some ⟨oc_law_draws, od_law_draws, .func (PySem.W.fnOf "_law_draws" "_law_draws" (defArgs s_law_draws) (defBody s_law_draws) (defScope s_law_draws) .none kV_law_draws dc_law_draws pm_law_draws an_law_draws cd_law_draws ct_law_draws), sl_law_draws⟩) (c_law_draws : PySem.W.codeIn K cd_law_draws "_law_draws" = true) (k_law_draws : PySem.W.keepIn K (.ref f_law_draws) = true)
    (a_law_take : PySem.W.nsIn K mainGlobals "_law_take" = some (some (.ref f_law_take))) (l_law_take : K.lookup f_law_take = some ⟨oc_law_take, od_law_take, .func (PySem.W.fnOf "_law_take" "_law_take" (defArgs s_law_take) (defBody s_law_take) (defScope s_law_take) .none kV_law_take dc_law_take pm_law_take an_law_take cd_law_take ct_law_take), sl_law_take⟩) (c_law_take : PySem.W.codeIn K cd_law_take "_law_take" = true) (k_law_take : PySem.W.keepIn K (.ref f_law_take) = true)
    (a_law_options : PySem.W.nsIn K mainGlobals "_law_options" = some (some (.ref f_law_options))) (l_law_options : K.lookup f_law_options = some ⟨oc_law_options, od_law_options, .func (PySem.W.fnOf "_law_options" "_law_options" (defArgs s_law_options) (defBody s_law_options) (defScope s_law_options) .none kV_law_options dc_law_options pm_law_options an_law_options cd_law_options ct_law_options), sl_law_options⟩) (c_law_options : PySem.W.codeIn K cd_law_options "_law_options" = true) (k_law_options : PySem.W.keepIn K (.ref f_law_options) = true)
    (a_law_distinct : PySem.W.nsIn K mainGlobals "_law_distinct" = some (some (.ref f_law_distinct))) (l_law_distinct : K.lookup f_law_distinct = some ⟨oc_law_distinct, od_law_distinct, .func (PySem.W.fnOf "_law_distinct" "_law_distinct" (defArgs s_law_distinct) (defBody s_law_distinct) (defScope s_law_distinct) .none kV_law_distinct dc_law_distinct pm_law_distinct an_law_distinct cd_law_distinct ct_law_distinct), sl_law_distinct⟩) (c_law_distinct : PySem.W.codeIn K cd_law_distinct "_law_distinct" = true) (k_law_distinct : PySem.W.keepIn K (.ref f_law_distinct) = true)
    (a_law_arena : PySem.W.nsIn K mainGlobals "_law_arena" = some (some (.ref f_law_arena))) (l_law_arena : K.lookup f_law_arena = some ⟨oc_law_arena, od_law_arena, .func (PySem.W.fnOf "_law_arena" "_law_arena" (defArgs s_law_arena) (defBody s_law_arena) (defScope s_law_arena) .none kV_law_arena dc_law_arena pm_law_arena an_law_arena cd_law_arena ct_law_arena), sl_law_arena⟩) (c_law_arena : PySem.W.codeIn K cd_law_arena "_law_arena" = true) (k_law_arena : PySem.W.keepIn K (.ref f_law_arena) = true)
    (a_law_some : PySem.W.nsIn K mainGlobals "_law_some" = some (some (.ref f_law_some))) (l_law_some : K.lookup f_law_some = some ⟨oc_law_some, od_law_some, .func (PySem.W.fnOf "_law_some" "_law_some" (defArgs s_law_some) (defBody s_law_some) (defScope s_law_some) .none kV_law_some dc_law_some pm_law_some an_law_some cd_law_some ct_law_some), sl_law_some⟩) (c_law_some : PySem.W.codeIn K cd_law_some "_law_some" = true) (k_law_some : PySem.W.keepIn K (.ref f_law_some) = true)
    (a_law_is_integer : PySem.W.nsIn K mainGlobals "_law_is_integer" = some (some (.ref f_law_is_integer))) (l_law_is_integer : K.lookup f_law_is_integer = some ⟨oc_law_is_integer, od_law_is_integer, .func (PySem.W.fnOf "_law_is_integer" "_law_is_integer" (defArgs s_law_is_integer) (defBody s_law_is_integer) (defScope s_law_is_integer) .none kV_law_is_integer dc_law_is_integer pm_law_is_integer an_law_is_integer cd_law_is_integer ct_law_is_integer), sl_law_is_integer⟩) (c_law_is_integer : PySem.W.codeIn K cd_law_is_integer "_law_is_integer" = true) (k_law_is_integer : PySem.W.keepIn K (.ref f_law_is_integer) = true)
    (a_law_kept : PySem.W.nsIn K mainGlobals "_law_kept" = some (some (.ref f_law_kept))) (l_law_kept : K.lookup f_law_kept = some ⟨oc_law_kept, od_law_kept, .func (PySem.W.fnOf "_law_kept" "_law_kept" (defArgs s_law_kept) (defBody s_law_kept) (defScope s_law_kept) .none kV_law_kept dc_law_kept pm_law_kept an_law_kept cd_law_kept ct_law_kept), sl_law_kept⟩) (c_law_kept : PySem.W.codeIn K cd_law_kept "_law_kept" = true) (k_law_kept : PySem.W.keepIn K (.ref f_law_kept) = true)
    (a_law_ring_right : PySem.W.nsIn K mainGlobals "_law_ring_right" = some (some (.ref f_law_ring_right))) (l_law_ring_right : K.lookup f_law_ring_right = some ⟨oc_law_ring_right, od_law_ring_right, .func (PySem.W.fnOf "_law_ring_right" "_law_ring_right" (defArgs s_law_ring_right) (defBody s_law_ring_right) (defScope s_law_ring_right) .none kV_law_ring_right dc_law_ring_right pm_law_ring_right an_law_ring_right cd_law_ring_right ct_law_ring_right), sl_law_ring_right⟩) (c_law_ring_right : PySem.W.codeIn K cd_law_ring_right "_law_ring_right" = true) (k_law_ring_right : PySem.W.keepIn K (.ref f_law_ring_right) = true)
    (alaw : PySem.W.nsIn K mainGlobals "law" = some (some (.ref flaw))) (llaw : K.lookup flaw = some ⟨oclaw, odlaw, .func (PySem.W.fnOf "law" "law" (defArgs slaw) (defBody slaw) (defScope slaw) .none kVlaw dclaw pmlaw anlaw cdlaw ctlaw), sllaw⟩) (claw : PySem.W.codeIn K cdlaw "law" = true) (klaw : PySem.W.keepIn K (.ref flaw) = true)
    (g_CONTROLLER : PySem.W.nsIn K mainGlobals "CONTROLLER" = some (some u_CONTROLLER)) (r_CONTROLLER : L2.RelV (.int 0) u_CONTROLLER)
    (tF : cdforces = .ref cF) (tL : K.lookup cF = some ⟨.type "code", odF, .fields vsF, slF⟩) (t11 : vsF[11]? = some (.ref PF)) (tN : K.lookup PF = none) (tg11 : vsF.getD 11 .none = .ref PF) (tg18 : vsF.getD 18 .none = .str xFile xt1) (tg7 : vsF.getD 7 .none = .int xFlags xt2) (tg9 : vsF.getD 9 .none = .bool xIn) (tg10 : vsF.getD 10 .none = .int xText xt3) (tne : cF ≠ PF)
    (z_all : PySem.W.nsIn K mainGlobals "all" = some none)
    (z_any : PySem.W.nsIn K mainGlobals "any" = some none)
    (z_bool : PySem.W.nsIn K mainGlobals "bool" = some none)
    (z_int : PySem.W.nsIn K mainGlobals "int" = some none)
    (z_isinstance : PySem.W.nsIn K mainGlobals "isinstance" = some none)
    (z_len : PySem.W.nsIn K mainGlobals "len" = some none)
    (z_list : PySem.W.nsIn K mainGlobals "list" = some none)
    (z_max : PySem.W.nsIn K mainGlobals "max" = some none)
    (z_min : PySem.W.nsIn K mainGlobals "min" = some none)
    (z_range : PySem.W.nsIn K mainGlobals "range" = some none)
    (z_sorted : PySem.W.nsIn K mainGlobals "sorted" = some none)
    (z_tuple : PySem.W.nsIn K mainGlobals "tuple" = some none)
    : LamX.LawAtS l w K CX0 9 63 "script" mg fa h := by
  have e := hfa.symm.trans (PySem.W.mg_of X G alaw)
  cases e
  let T : Txt K mg := {
    z_all := PySem.W.mg_none_of X G z_all
    z_any := PySem.W.mg_none_of X G z_any
    z_bool := PySem.W.mg_none_of X G z_bool
    z_int := PySem.W.mg_none_of X G z_int
    z_isinstance := PySem.W.mg_none_of X G z_isinstance
    z_len := PySem.W.mg_none_of X G z_len
    z_list := PySem.W.mg_none_of X G z_list
    z_max := PySem.W.mg_none_of X G z_max
    z_min := PySem.W.mg_none_of X G z_min
    z_range := PySem.W.mg_none_of X G z_range
    z_sorted := PySem.W.mg_none_of X G z_sorted
    z_tuple := PySem.W.mg_none_of X G z_tuple
    u_CONTROLLER := u_CONTROLLER
    g_CONTROLLER := PySem.W.mg_of X G g_CONTROLLER
    r_CONTROLLER := r_CONTROLLER
    aforces := fforces
    dforces := _
    Fforces := fun_mk (st := sforces) lforces cforces kforces
    mforces := PySem.W.mg_of X G aforces
    a_all_marked := f_all_marked
    d_all_marked := _
    F_all_marked := fun_mk (st := s_all_marked) l_all_marked c_all_marked k_all_marked
    m_all_marked := PySem.W.mg_of X G a_all_marked
    a_some_marked := f_some_marked
    d_some_marked := _
    F_some_marked := fun_mk (st := s_some_marked) l_some_marked c_some_marked k_some_marked
    m_some_marked := PySem.W.mg_of X G a_some_marked
    asteps_to := fsteps_to
    dsteps_to := _
    Fsteps_to := fun_mk (st := ssteps_to) lsteps_to csteps_to ksteps_to
    msteps_to := PySem.W.mg_of X G asteps_to
    aleast_beats := fleast_beats
    dleast_beats := _
    Fleast_beats := fun_mk (st := sleast_beats) lleast_beats cleast_beats kleast_beats
    mleast_beats := PySem.W.mg_of X G aleast_beats
    a_ranks_to := f_ranks_to
    d_ranks_to := _
    F_ranks_to := fun_mk (st := s_ranks_to) l_ranks_to c_ranks_to k_ranks_to
    m_ranks_to := PySem.W.mg_of X G a_ranks_to
    a_need := f_need
    d_need := _
    F_need := fun_mk (st := s_need) l_need c_need k_need
    m_need := PySem.W.mg_of X G a_need
    a_take_lesser := f_take_lesser
    d_take_lesser := _
    F_take_lesser := fun_mk (st := s_take_lesser) l_take_lesser c_take_lesser k_take_lesser
    m_take_lesser := PySem.W.mg_of X G a_take_lesser
    a_law_draws := f_law_draws
    d_law_draws := _
    F_law_draws := fun_mk (st := s_law_draws) l_law_draws c_law_draws k_law_draws
    m_law_draws := PySem.W.mg_of X G a_law_draws
    a_law_take := f_law_take
    d_law_take := _
    F_law_take := fun_mk (st := s_law_take) l_law_take c_law_take k_law_take
    m_law_take := PySem.W.mg_of X G a_law_take
    a_law_options := f_law_options
    d_law_options := _
    F_law_options := fun_mk (st := s_law_options) l_law_options c_law_options k_law_options
    m_law_options := PySem.W.mg_of X G a_law_options
    a_law_distinct := f_law_distinct
    d_law_distinct := _
    F_law_distinct := fun_mk (st := s_law_distinct) l_law_distinct c_law_distinct k_law_distinct
    m_law_distinct := PySem.W.mg_of X G a_law_distinct
    a_law_arena := f_law_arena
    d_law_arena := _
    F_law_arena := fun_mk (st := s_law_arena) l_law_arena c_law_arena k_law_arena
    m_law_arena := PySem.W.mg_of X G a_law_arena
    a_law_some := f_law_some
    d_law_some := _
    F_law_some := fun_mk (st := s_law_some) l_law_some c_law_some k_law_some
    m_law_some := PySem.W.mg_of X G a_law_some
    a_law_is_integer := f_law_is_integer
    d_law_is_integer := _
    F_law_is_integer := fun_mk (st := s_law_is_integer) l_law_is_integer c_law_is_integer k_law_is_integer
    m_law_is_integer := PySem.W.mg_of X G a_law_is_integer
    a_law_kept := f_law_kept
    d_law_kept := _
    F_law_kept := fun_mk (st := s_law_kept) l_law_kept c_law_kept k_law_kept
    m_law_kept := PySem.W.mg_of X G a_law_kept
    a_law_ring_right := f_law_ring_right
    d_law_ring_right := _
    F_law_ring_right := fun_mk (st := s_law_ring_right) l_law_ring_right c_law_ring_right k_law_ring_right
    m_law_ring_right := PySem.W.mg_of X G a_law_ring_right
    alaw := fa
    dlaw := _
    Flaw := fun_mk (st := slaw) llaw claw klaw
    mlaw := PySem.W.mg_of X G alaw }
  have hP := own fforces (PySem.W.mg_of X G aforces) cF PF _ _ _ _ _ _ lforces rfl tF tL t11
  refine ⟨T.dlaw, [(cF, PF)], spLawT K PF, fun p hp => ?_, fun p hp => ?_, fun p hp => ?_, fun s v => .of_eq rfl, fun H a ns hl _ hH hS => ⟨a, ns, rfl, hS, hl, ⟨#[], hH _ (List.mem_singleton.mpr rfl), trivial⟩, fun _ => rfl⟩, fun base _ _ hTB => ?_⟩
  · rw [List.mem_singleton.mp hp]; exact hP
  · rw [List.mem_singleton.mp hp]; exact tN
  · rw [List.mem_singleton.mp hp]; exact ⟨_, vsF, xFile, xt1, xFlags, xt2, xIn, xText, xt3, X _ _ tL, rfl, rfl, t11, tg11, tg18, tg7, tg9, tg10, tne⟩
  have TB0 := hTB (cF, PF) (List.mem_singleton.mpr rfl)
  exact ok_law T ⟨TB0.code, TB0.bm, TB0.gP⟩ tF
end NL
open PySem PySem.W PyProof.Rows
set_option maxRecDepth 100000 in
set_option maxHeartbeats 0 in
theorem PySem.Challenge.cw_neverleaves_k33_least_beats_holds : PySem.Challenge.rw_neverleaves_k33_least_beats.Holds := by
  w_on; o_law; k_head; (case hw => w_witness2)
  k_fill
  refine NL.walk_tab (l := PySem.Challenge.rw_neverleaves_k33_least_beats) (n := 63) (k := 9) (x := "script") (CX := fun _ => L2.CX0) "forces" rfl (by decide) rfl ⟨rfl, by decide, by decide⟩ (by decide +kernel) (fun w h Y => PySem.W.kIn_of Y) ?F (fun _ _ _ _ _ h => h)
  case F =>
    intro w mg fa h _ KX G hmg own
    refine' NL.all_mk KX G hmg own  ?aforces ?lforces ?cforces ?kforces ?a_all_marked ?l_all_marked ?c_all_marked ?k_all_marked ?a_some_marked ?l_some_marked ?c_some_marked ?k_some_marked ?asteps_to ?lsteps_to ?csteps_to ?ksteps_to ?aleast_beats ?lleast_beats ?cleast_beats ?kleast_beats ?a_ranks_to ?l_ranks_to ?c_ranks_to ?k_ranks_to ?a_need ?l_need ?c_need ?k_need ?a_take_lesser ?l_take_lesser ?c_take_lesser ?k_take_lesser ?a_law_draws ?l_law_draws ?c_law_draws ?k_law_draws ?a_law_take ?l_law_take ?c_law_take ?k_law_take ?a_law_options ?l_law_options ?c_law_options ?k_law_options ?a_law_distinct ?l_law_distinct ?c_law_distinct ?k_law_distinct ?a_law_arena ?l_law_arena ?c_law_arena ?k_law_arena ?a_law_some ?l_law_some ?c_law_some ?k_law_some ?a_law_is_integer ?l_law_is_integer ?c_law_is_integer ?k_law_is_integer ?a_law_kept ?l_law_kept ?c_law_kept ?k_law_kept ?a_law_ring_right ?l_law_ring_right ?c_law_ring_right ?k_law_ring_right ?alaw ?llaw ?claw ?klaw ?g_CONTROLLER ?r_CONTROLLER ?tF ?tL ?t11 ?tN ?tg11 ?tg18 ?tg7 ?tg9 ?tg10 ?tne ?z_all ?z_any ?z_bool ?z_int ?z_isinstance ?z_len ?z_list ?z_max ?z_min ?z_range ?z_sorted ?z_tuple
    (case aforces => k_is); (case lforces => k_is); (case cforces => k_is); (case kforces => k_is)
    (case a_all_marked => k_is); (case l_all_marked => k_is); (case c_all_marked => k_is); (case k_all_marked => k_is)
    (case a_some_marked => k_is); (case l_some_marked => k_is); (case c_some_marked => k_is); (case k_some_marked => k_is)
    (case asteps_to => k_is); (case lsteps_to => k_is); (case csteps_to => k_is); (case ksteps_to => k_is)
    (case aleast_beats => k_is); (case lleast_beats => k_is); (case cleast_beats => k_is); (case kleast_beats => k_is)
    (case a_ranks_to => k_is); (case l_ranks_to => k_is); (case c_ranks_to => k_is); (case k_ranks_to => k_is)
    (case a_need => k_is); (case l_need => k_is); (case c_need => k_is); (case k_need => k_is)
    (case a_take_lesser => k_is); (case l_take_lesser => k_is); (case c_take_lesser => k_is); (case k_take_lesser => k_is)
    (case a_law_draws => k_is); (case l_law_draws => k_is); (case c_law_draws => k_is); (case k_law_draws => k_is)
    (case a_law_take => k_is); (case l_law_take => k_is); (case c_law_take => k_is); (case k_law_take => k_is)
    (case a_law_options => k_is); (case l_law_options => k_is); (case c_law_options => k_is); (case k_law_options => k_is)
    (case a_law_distinct => k_is); (case l_law_distinct => k_is); (case c_law_distinct => k_is); (case k_law_distinct => k_is)
    (case a_law_arena => k_is); (case l_law_arena => k_is); (case c_law_arena => k_is); (case k_law_arena => k_is)
    (case a_law_some => k_is); (case l_law_some => k_is); (case c_law_some => k_is); (case k_law_some => k_is)
    (case a_law_is_integer => k_is); (case l_law_is_integer => k_is); (case c_law_is_integer => k_is); (case k_law_is_integer => k_is)
    (case a_law_kept => k_is); (case l_law_kept => k_is); (case c_law_kept => k_is); (case k_law_kept => k_is)
    (case a_law_ring_right => k_is); (case l_law_ring_right => k_is); (case c_law_ring_right => k_is); (case k_law_ring_right => k_is)
    (case alaw => k_is); (case llaw => k_is); (case claw => k_is); (case klaw => k_is)
    (case g_CONTROLLER => k_is); (case r_CONTROLLER => exact ⟨_, rfl⟩)
    (case tF => rfl); (case tL => k_is); (case t11 => rfl); (case tN => first | rfl | decide | k_is); (case tg11 => rfl); (case tg18 => rfl); (case tg7 => rfl); (case tg9 => rfl); (case tg10 => rfl); (case tne => decide)
    (case z_all => k_is)
    (case z_any => k_is)
    (case z_bool => k_is)
    (case z_int => k_is)
    (case z_isinstance => k_is)
    (case z_len => k_is)
    (case z_list => k_is)
    (case z_max => k_is)
    (case z_min => k_is)
    (case z_range => k_is)
    (case z_sorted => k_is)
    (case z_tuple => k_is)
