import PyProof.Rows.All
import Wide.All
import OpenK.AllK
import Wide.FinOn
import HandS.ForExc
import HandS.ForMost
import HandS.TupAny
import HandS.IsInst
import HandS.Codes
import HandS.FStr
import HandS.Zip
import HandS.TupSets
import HandS.SetFor
import HandS.Strs
import HandS.More
import HandS.DictComp
import HandS.Conv
import PyProof.Draws
import HandS.Iter
import KE.GoesMore
import HandS.AnyAll
import HandS.EndOwn
import PyProof.GenCompD
import HandS.Walk
import HandS.SetKeys
import KE.KxIndex
import PySem.Challenge.RW_neverleaves_k82_whole_no_controller_know
set_option Elab.async false
set_option linter.all false
set_option maxRecDepth 100000

namespace NL
open PySem PySem.Spec PyProof.Rows L2
def topS (i : Nat) : Stmt := PySem.Challenge.pw_neverleaves_k82_whole_no_controller_know.main.body.getD i (.Pass ⟨0, 0, 0, 0⟩)
abbrev sforces : Stmt := topS 3
abbrev Nforces : List Str := ["side", "options", "marks", "option"]
abbrev Pforces : List Str := ["side", "options", "marks"]
theorem scforces : FnScope Nforces Pforces (defScope sforces) := ⟨rfl, rfl, rfl, by decide +kernel, rfl, by decide +kernel, by decide +kernel⟩
abbrev s_all_marked : Stmt := topS 4
abbrev N_all_marked : List Str := ["option", "marks", "after"]
abbrev P_all_marked : List Str := ["option", "marks"]
theorem sc_all_marked : FnScope N_all_marked P_all_marked (defScope s_all_marked) := ⟨rfl, rfl, rfl, by decide +kernel, rfl, by decide +kernel, by decide +kernel⟩
abbrev s_some_marked : Stmt := topS 5
abbrev N_some_marked : List Str := ["option", "marks", "after"]
abbrev P_some_marked : List Str := ["option", "marks"]
theorem sc_some_marked : FnScope N_some_marked P_some_marked (defScope s_some_marked) := ⟨rfl, rfl, rfl, by decide +kernel, rfl, by decide +kernel, by decide +kernel⟩
abbrev ssteps_to : Stmt := topS 6
abbrev Nsteps_to : List Str := ["arena", "side", "marks", "among", "reached", "steps", "many", "grows", "found", "at"]
abbrev Psteps_to : List Str := ["arena", "side", "marks", "among"]
theorem scsteps_to : FnScope Nsteps_to Psteps_to (defScope ssteps_to) := ⟨rfl, rfl, rfl, by decide +kernel, rfl, by decide +kernel, by decide +kernel⟩
abbrev sstay_ranks : Stmt := topS 8
abbrev Nstay_ranks : List Str := ["arena", "keep", "at"]
abbrev Pstay_ranks : List Str := ["arena", "keep"]
theorem scstay_ranks : FnScope Nstay_ranks Pstay_ranks (defScope sstay_ranks) := ⟨rfl, rfl, rfl, by decide +kernel, rfl, by decide +kernel, by decide +kernel⟩
abbrev s_ranks_to : Stmt := topS 9
abbrev N_ranks_to : List Str := ["arena", "side", "marks", "steps", "at", "mark"]
abbrev P_ranks_to : List Str := ["arena", "side", "marks"]
theorem sc_ranks_to : FnScope N_ranks_to P_ranks_to (defScope s_ranks_to) := ⟨rfl, rfl, rfl, by decide +kernel, rfl, by decide +kernel, by decide +kernel⟩
abbrev sknown_arena : Stmt := topS 11
abbrev Nknown_arena : List Str := ["arena", "readings", "starts", "sets", "numbers", "number", "known", "known_options", "options", "index", "at", "after", "following", "one", "out"]
abbrev Pknown_arena : List Str := ["arena", "readings", "starts"]
theorem scknown_arena : FnScope Nknown_arena Pknown_arena (defScope sknown_arena) := ⟨rfl, rfl, rfl, by decide +kernel, rfl, by decide +kernel, by decide +kernel⟩
abbrev s_successors_of : Stmt := topS 12
abbrev N_successors_of : List Str := ["arena", "known", "index", "found", "at", "after"]
abbrev P_successors_of : List Str := ["arena", "known", "index"]
theorem sc_successors_of : FnScope N_successors_of P_successors_of (defScope s_successors_of) := ⟨rfl, rfl, rfl, by decide +kernel, rfl, by decide +kernel, by decide +kernel⟩
abbrev s_parted : Stmt := topS 13
abbrev N_parted : List Str := ["positions", "readings", "parts", "at", "reading"]
abbrev P_parted : List Str := ["positions", "readings"]
theorem sc_parted : FnScope N_parted P_parted (defScope s_parted) := ⟨rfl, rfl, rfl, by decide +kernel, rfl, by decide +kernel, by decide +kernel⟩
abbrev scan_know : Stmt := topS 14
abbrev Ncan_know : List Str := ["arena", "keep", "readings", "starts", "known", "sets", "inside", "number", "places", "at", "ranks", "rank"]
abbrev Pcan_know : List Str := ["arena", "keep", "readings", "starts"]
theorem sccan_know : FnScope Ncan_know Pcan_know (defScope scan_know) := ⟨rfl, rfl, rfl, by decide +kernel, rfl, by decide +kernel, by decide +kernel⟩
abbrev s_law_draws : Stmt := topS 16
abbrev N_law_draws : List Str := ["script", "many", "cells", "cell", "rest", "draws", "k", "at", "once"]
abbrev P_law_draws : List Str := ["script", "many"]
theorem sc_law_draws : FnScope N_law_draws P_law_draws (defScope s_law_draws) := ⟨rfl, rfl, rfl, by decide +kernel, rfl, by decide +kernel, by decide +kernel⟩
abbrev s_law_take : Stmt := topS 17
abbrev N_law_take : List Str := ["draws", "many"]
abbrev P_law_take : List Str := ["draws", "many"]
theorem sc_law_take : FnScope N_law_take P_law_take (defScope s_law_take) := ⟨rfl, rfl, rfl, by decide +kernel, rfl, by decide +kernel, by decide +kernel⟩
abbrev s_law_great : Stmt := topS 18
abbrev N_law_great : List Str := ["draws", "size", "a", "b", "c", "bad", "arena", "k", "options"]
abbrev P_law_great : List Str := ["draws"]
theorem sc_law_great : FnScope N_law_great P_law_great (defScope s_law_great) := ⟨rfl, rfl, rfl, by decide +kernel, rfl, by decide +kernel, by decide +kernel⟩
abbrev s_law_arena : Stmt := topS 19
abbrev N_law_arena : List Str := ["draws", "most", "shape", "rare", "menu", "count", "arena", "k", "options", "j", "found", "i", "drawn", "successor", "at", "more"]
abbrev P_law_arena : List Str := ["draws", "most"]
theorem sc_law_arena : FnScope N_law_arena P_law_arena (defScope s_law_arena) := ⟨rfl, rfl, rfl, by decide +kernel, rfl, by decide +kernel, by decide +kernel⟩
abbrev s_law_some : Stmt := topS 20
abbrev N_law_some : List Str := ["draws", "arena", "share", "step", "first", "k"]
abbrev P_law_some : List Str := ["draws", "arena", "share"]
theorem sc_law_some : FnScope N_law_some P_law_some (defScope s_law_some) := ⟨rfl, rfl, rfl, by decide +kernel, rfl, by decide +kernel, by decide +kernel⟩
abbrev s_law_is_truth : Stmt := topS 21
abbrev N_law_is_truth : List Str := ["actual", "due"]
abbrev P_law_is_truth : List Str := ["actual", "due"]
theorem sc_law_is_truth : FnScope N_law_is_truth P_law_is_truth (defScope s_law_is_truth) := ⟨rfl, rfl, rfl, by decide +kernel, rfl, by decide +kernel, by decide +kernel⟩
abbrev s_law_set : Stmt := topS 22
abbrev N_law_set : List Str := ["arena", "mask", "k"]
abbrev P_law_set : List Str := ["arena", "mask"]
theorem sc_law_set : FnScope N_law_set P_law_set (defScope s_law_set) := ⟨rfl, rfl, rfl, by decide +kernel, rfl, by decide +kernel, by decide +kernel⟩
abbrev s_law_mask : Stmt := topS 23
abbrev N_law_mask : List Str := ["positions", "at"]
abbrev P_law_mask : List Str := ["positions"]
theorem sc_law_mask : FnScope N_law_mask P_law_mask (defScope s_law_mask) := ⟨rfl, rfl, rfl, by decide +kernel, rfl, by decide +kernel, by decide +kernel⟩
abbrev s_law_is_left : Stmt := topS 24
abbrev N_law_is_left : List Str := ["arena", "readings", "left", "mask", "known", "option", "at", "after", "masks", "reading", "part"]
abbrev P_law_is_left : List Str := ["arena", "readings", "left", "mask"]
theorem sc_law_is_left : FnScope N_law_is_left P_law_is_left (defScope s_law_is_left) := ⟨rfl, rfl, rfl, by decide +kernel, rfl, by decide +kernel, by decide +kernel⟩
abbrev slaw : Stmt := topS 25
abbrev Nlaw : List Str := ["script", "draws", "arena", "options", "keep", "starts", "kind", "turn", "readings", "k", "left", "mask", "at", "fewer", "due", "reading"]
abbrev Plaw : List Str := ["script"]
theorem sclaw : FnScope Nlaw Plaw (defScope slaw) := ⟨rfl, rfl, rfl, by decide +kernel, rfl, by decide +kernel, by decide +kernel⟩
def KT (K : PySem.W.Frag) (a : Addr) (ys : List V) : Prop := ∃ o its n, List.lookup a K = some o ∧ o.cls = .type "tuple" ∧ o.data = .seq its n ∧ its.size ≤ sizeLine ∧ L2.Vals ys its.toList
theorem kt_mk {K : PySem.W.Frag} {a : Addr} {ys : List V} {o : Obj} {its : Array Value} {n : Nat} (h1 : List.lookup a K = some o) (h2 : o.cls = .type "tuple") (h3 : o.data = .seq its n) (h4 : its.size ≤ sizeLine) (h5 : L2.Vals ys its.toList) : KT K a ys := ⟨o, its, n, h1, h2, h3, h4, h5⟩
set_option genInjectivity false in
set_option genSizeOfSpec false in
structure Txt (K : PySem.W.Frag) (mg : Str → Option Value) where
  z_all : mg "all" = none
  z_any : mg "any" = none
  z_bool : mg "bool" = none
  z_enumerate : mg "enumerate" = none
  z_int : mg "int" = none
  z_isinstance : mg "isinstance" = none
  z_len : mg "len" = none
  z_list : mg "list" = none
  z_min : mg "min" = none
  z_range : mg "range" = none
  z_set : mg "set" = none
  z_sorted : mg "sorted" = none
  z_sum : mg "sum" = none
  z_tuple : mg "tuple" = none
  u_CONTROLLER : Value
  g_CONTROLLER : mg "CONTROLLER" = some u_CONTROLLER
  r_CONTROLLER : L2.RelV (.int 0) u_CONTROLLER
  u_DISTURBANCE : Value
  g_DISTURBANCE : mg "DISTURBANCE" = some u_DISTURBANCE
  r_DISTURBANCE : L2.RelV (.int 1) u_DISTURBANCE
  aforces : Addr
  dforces : FuncData
  Fforces : Fun K "forces" "forces" sforces aforces dforces
  mforces : mg "forces" = some (.ref aforces)
  a_all_marked : Addr
  d_all_marked : FuncData
  F_all_marked : Fun K "_all_marked" "_all_marked" s_all_marked a_all_marked d_all_marked
  m_all_marked : mg "_all_marked" = some (.ref a_all_marked)
  a_some_marked : Addr
  d_some_marked : FuncData
  F_some_marked : Fun K "_some_marked" "_some_marked" s_some_marked a_some_marked d_some_marked
  m_some_marked : mg "_some_marked" = some (.ref a_some_marked)
  asteps_to : Addr
  dsteps_to : FuncData
  Fsteps_to : Fun K "steps_to" "steps_to" ssteps_to asteps_to dsteps_to
  msteps_to : mg "steps_to" = some (.ref asteps_to)
  astay_ranks : Addr
  dstay_ranks : FuncData
  Fstay_ranks : Fun K "stay_ranks" "stay_ranks" sstay_ranks astay_ranks dstay_ranks
  mstay_ranks : mg "stay_ranks" = some (.ref astay_ranks)
  a_ranks_to : Addr
  d_ranks_to : FuncData
  F_ranks_to : Fun K "_ranks_to" "_ranks_to" s_ranks_to a_ranks_to d_ranks_to
  m_ranks_to : mg "_ranks_to" = some (.ref a_ranks_to)
  aknown_arena : Addr
  dknown_arena : FuncData
  Fknown_arena : Fun K "known_arena" "known_arena" sknown_arena aknown_arena dknown_arena
  mknown_arena : mg "known_arena" = some (.ref aknown_arena)
  a_successors_of : Addr
  d_successors_of : FuncData
  F_successors_of : Fun K "_successors_of" "_successors_of" s_successors_of a_successors_of d_successors_of
  m_successors_of : mg "_successors_of" = some (.ref a_successors_of)
  a_parted : Addr
  d_parted : FuncData
  F_parted : Fun K "_parted" "_parted" s_parted a_parted d_parted
  m_parted : mg "_parted" = some (.ref a_parted)
  acan_know : Addr
  dcan_know : FuncData
  Fcan_know : Fun K "can_know" "can_know" scan_know acan_know dcan_know
  mcan_know : mg "can_know" = some (.ref acan_know)
  a_law_draws : Addr
  d_law_draws : FuncData
  F_law_draws : Fun K "_law_draws" "_law_draws" s_law_draws a_law_draws d_law_draws
  m_law_draws : mg "_law_draws" = some (.ref a_law_draws)
  a_law_take : Addr
  d_law_take : FuncData
  F_law_take : Fun K "_law_take" "_law_take" s_law_take a_law_take d_law_take
  m_law_take : mg "_law_take" = some (.ref a_law_take)
  a_law_great : Addr
  d_law_great : FuncData
  F_law_great : Fun K "_law_great" "_law_great" s_law_great a_law_great d_law_great
  m_law_great : mg "_law_great" = some (.ref a_law_great)
  a_law_arena : Addr
  d_law_arena : FuncData
  F_law_arena : Fun K "_law_arena" "_law_arena" s_law_arena a_law_arena d_law_arena
  m_law_arena : mg "_law_arena" = some (.ref a_law_arena)
  a_law_some : Addr
  d_law_some : FuncData
  F_law_some : Fun K "_law_some" "_law_some" s_law_some a_law_some d_law_some
  m_law_some : mg "_law_some" = some (.ref a_law_some)
  a_law_is_truth : Addr
  d_law_is_truth : FuncData
  F_law_is_truth : Fun K "_law_is_truth" "_law_is_truth" s_law_is_truth a_law_is_truth d_law_is_truth
  m_law_is_truth : mg "_law_is_truth" = some (.ref a_law_is_truth)
  a_law_set : Addr
  d_law_set : FuncData
  F_law_set : Fun K "_law_set" "_law_set" s_law_set a_law_set d_law_set
  m_law_set : mg "_law_set" = some (.ref a_law_set)
  a_law_mask : Addr
  d_law_mask : FuncData
  F_law_mask : Fun K "_law_mask" "_law_mask" s_law_mask a_law_mask d_law_mask
  m_law_mask : mg "_law_mask" = some (.ref a_law_mask)
  a_law_is_left : Addr
  d_law_is_left : FuncData
  F_law_is_left : Fun K "_law_is_left" "_law_is_left" s_law_is_left a_law_is_left d_law_is_left
  m_law_is_left : mg "_law_is_left" = some (.ref a_law_is_left)
  alaw : Addr
  dlaw : FuncData
  Flaw : Fun K "law" "law" slaw alaw dlaw
  mlaw : mg "law" = some (.ref alaw)
theorem Txt.bforces {K : PySem.W.Frag} {mg : Str → Option Value} (T : Txt K mg) : Binds K T.dforces Pforces [] := T.Fforces.binds fun _ _ _ _ _ _ us hl => match us, hl with | [_, _, _], _ => rfl
theorem Txt.b_all_marked {K : PySem.W.Frag} {mg : Str → Option Value} (T : Txt K mg) : Binds K T.d_all_marked P_all_marked [] := T.F_all_marked.binds fun _ _ _ _ _ _ us hl => match us, hl with | [_, _], _ => rfl
theorem Txt.b_some_marked {K : PySem.W.Frag} {mg : Str → Option Value} (T : Txt K mg) : Binds K T.d_some_marked P_some_marked [] := T.F_some_marked.binds fun _ _ _ _ _ _ us hl => match us, hl with | [_, _], _ => rfl
theorem Txt.bsteps_to {K : PySem.W.Frag} {mg : Str → Option Value} (T : Txt K mg) : Binds K T.dsteps_to Psteps_to [] := T.Fsteps_to.binds fun _ _ _ _ _ _ us hl => match us, hl with | [_, _, _, _], _ => rfl
theorem Txt.bstay_ranks {K : PySem.W.Frag} {mg : Str → Option Value} (T : Txt K mg) : Binds K T.dstay_ranks Pstay_ranks [] := T.Fstay_ranks.binds fun _ _ _ _ _ _ us hl => match us, hl with | [_, _], _ => rfl
theorem Txt.b_ranks_to {K : PySem.W.Frag} {mg : Str → Option Value} (T : Txt K mg) : Binds K T.d_ranks_to P_ranks_to [] := T.F_ranks_to.binds fun _ _ _ _ _ _ us hl => match us, hl with | [_, _, _], _ => rfl
theorem Txt.bknown_arena {K : PySem.W.Frag} {mg : Str → Option Value} (T : Txt K mg) : Binds K T.dknown_arena Pknown_arena [] := T.Fknown_arena.binds fun _ _ _ _ _ _ us hl => match us, hl with | [_, _, _], _ => rfl
theorem Txt.b_successors_of {K : PySem.W.Frag} {mg : Str → Option Value} (T : Txt K mg) : Binds K T.d_successors_of P_successors_of [] := T.F_successors_of.binds fun _ _ _ _ _ _ us hl => match us, hl with | [_, _, _], _ => rfl
theorem Txt.b_parted {K : PySem.W.Frag} {mg : Str → Option Value} (T : Txt K mg) : Binds K T.d_parted P_parted [] := T.F_parted.binds fun _ _ _ _ _ _ us hl => match us, hl with | [_, _], _ => rfl
theorem Txt.bcan_know {K : PySem.W.Frag} {mg : Str → Option Value} (T : Txt K mg) : Binds K T.dcan_know Pcan_know [] := T.Fcan_know.binds fun _ _ _ _ _ _ us hl => match us, hl with | [_, _, _, _], _ => rfl
theorem Txt.b_law_draws {K : PySem.W.Frag} {mg : Str → Option Value} (T : Txt K mg) : Binds K T.d_law_draws P_law_draws [] := T.F_law_draws.binds fun _ _ _ _ _ _ us hl => match us, hl with | [_, _], _ => rfl
theorem Txt.b_law_take {K : PySem.W.Frag} {mg : Str → Option Value} (T : Txt K mg) : Binds K T.d_law_take P_law_take [] := T.F_law_take.binds fun _ _ _ _ _ _ us hl => match us, hl with | [_, _], _ => rfl
theorem Txt.b_law_great {K : PySem.W.Frag} {mg : Str → Option Value} (T : Txt K mg) : Binds K T.d_law_great P_law_great [] := T.F_law_great.binds fun _ _ _ _ _ _ us hl => match us, hl with | [_], _ => rfl
theorem Txt.b_law_arena {K : PySem.W.Frag} {mg : Str → Option Value} (T : Txt K mg) : Binds K T.d_law_arena P_law_arena [] := T.F_law_arena.binds fun _ _ _ _ _ _ us hl => match us, hl with | [_, _], _ => rfl
theorem Txt.b_law_some {K : PySem.W.Frag} {mg : Str → Option Value} (T : Txt K mg) : Binds K T.d_law_some P_law_some [] := T.F_law_some.binds fun _ _ _ _ _ _ us hl => match us, hl with | [_, _, _], _ => rfl
theorem Txt.b_law_is_truth {K : PySem.W.Frag} {mg : Str → Option Value} (T : Txt K mg) : Binds K T.d_law_is_truth P_law_is_truth [] := T.F_law_is_truth.binds fun _ _ _ _ _ _ us hl => match us, hl with | [_, _], _ => rfl
theorem Txt.b_law_set {K : PySem.W.Frag} {mg : Str → Option Value} (T : Txt K mg) : Binds K T.d_law_set P_law_set [] := T.F_law_set.binds fun _ _ _ _ _ _ us hl => match us, hl with | [_, _], _ => rfl
theorem Txt.b_law_mask {K : PySem.W.Frag} {mg : Str → Option Value} (T : Txt K mg) : Binds K T.d_law_mask P_law_mask [] := T.F_law_mask.binds fun _ _ _ _ _ _ us hl => match us, hl with | [_], _ => rfl
theorem Txt.b_law_is_left {K : PySem.W.Frag} {mg : Str → Option Value} (T : Txt K mg) : Binds K T.d_law_is_left P_law_is_left [] := T.F_law_is_left.binds fun _ _ _ _ _ _ us hl => match us, hl with | [_, _, _, _], _ => rfl
theorem Txt.blaw {K : PySem.W.Frag} {mg : Str → Option Value} (T : Txt K mg) : Binds K T.dlaw Plaw [] := T.Flaw.binds fun _ _ _ _ _ _ us hl => match us, hl with | [_], _ => rfl
end NL

namespace NL
open PySem PySem.Spec PyProof.Rows L2

/-! ### frames: what stays while the list of draws at d is used up -/
structure Go (d : Addr) (H H' : Hp) : Prop where
  fr : ∀ b o, b ≠ d → H b = some o → H' b = some o
  dr : ∃ ns : List Int, H' d = some (.lst (ns.map V.int))
abbrev Dr (H : Hp) (d : Addr) : Prop := ∃ ns : List Int, H d = some (.lst (ns.map V.int))
theorem Go.refl {d : Addr} {H : Hp} (h : Dr H d) : Go d H H := ⟨fun _ _ _ e => e, h⟩
theorem Go.trans {d : Addr} {H H1 H2 : Hp} (a : Go d H H1) (b : Go d H1 H2) : Go d H H2 := ⟨fun c o n e => b.fr c o n (a.fr c o n e), b.dr⟩
theorem Go.new {d p : Addr} {H : Hp} {o : HO} (h : Dr H d) (hp : H p = none) : Go d H (upd H p o) := by
  obtain ⟨ns, e⟩ := h
  have n : d ≠ p := ne_of_none e hp
  exact ⟨fun b u _ q => by rw [upd_ne (ne_of_none q hp)]; exact q, ⟨ns, by rw [upd_ne n]; exact e⟩⟩
theorem Go.put {d : Addr} {H : Hp} (ns : List Int) : Go d H (upd H d (.lst (ns.map V.int))) := ⟨fun b u n q => by rw [upd_ne n]; exact q, ⟨ns, upd_same⟩⟩
theorem Go.same {d : Addr} {H H' : Hp} (h : Dr H d) (s : Same H H') : Go d H H' := ⟨fun b o _ e => s b o e, by obtain ⟨ns, e⟩ := h; exact ⟨ns, s _ _ e⟩⟩
theorem Go.tup {d a : Addr} {H H' : Hp} {xs : List V} (g : Go d H H') (h : Dr H d) (e : H a = some (.tup xs)) : H' a = some (.tup xs) := by
  refine g.fr a _ ?_ e
  rintro rfl
  obtain ⟨ns, q⟩ := h
  rw [e] at q; cases q
theorem same_new {H : Hp} {p : Addr} (h : H p = none) (o : HO) : Same H (upd H p o) := fun b u q => by rw [upd_ne (ne_of_none q h)]; exact q
/-- all tuples stay -/
def Tp (H H' : Hp) : Prop := ∀ a xs, H a = some (.tup xs) → H' a = some (.tup xs)
theorem Go.tp {d : Addr} {H H' : Hp} (g : Go d H H') (h : Dr H d) : Tp H H' := fun _ _ e => g.tup h e
theorem Tp.same {H H' : Hp} (s : Same H H') : Tp H H' := fun _ _ e => s _ _ e
theorem Tp.trans {H H1 H2 : Hp} (a : Tp H H1) (b : Tp H1 H2) : Tp H H2 := fun x y e => b x y (a x y e)
theorem Tp.refl {H : Hp} : Tp H H := fun _ _ e => e
/-- a list that stays readable whatever is drawn at d -/
def Keep (K : PySem.W.Frag) (d : Addr) (H : Hp) (a : Addr) (xs : List V) : Prop := ∀ H', (∀ b o, b ≠ d → H b = some o → H' b = some o) → SqL K H' a xs
theorem Keep.now {K : PySem.W.Frag} {d a : Addr} {H : Hp} {xs : List V} (k : Keep K d H a xs) : SqL K H a xs := k H fun _ _ _ e => e
theorem Keep.go {K : PySem.W.Frag} {d a : Addr} {H H' : Hp} {xs : List V} (k : Keep K d H a xs) (g : Go d H H') : Keep K d H' a xs := fun H2 f => k H2 fun b o n e => f b o n (g.fr b o n e)
theorem Keep.of {K : PySem.W.Frag} {d a : Addr} {H : Hp} {xs : List V} (n : a ≠ d) (h : H a = some (.lst xs)) : Keep K d H a xs := fun H' f => .inl (.inl (f a _ n h))
/-- what was read ahead of the draws' list stays -/
theorem Keep.old {K : PySem.W.Frag} {d a : Addr} {H0 H : Hp} {xs : List V} (h : SqL K H0 a xs) (hd : H0 d = none) (f : ∀ b o, H0 b = some o → H b = some o) : Keep K d H a xs := fun H' g => by
  rcases h with (h | ⟨o, h⟩) | h
  · exact .inl (.inl (g a _ (ne_of_none h hd) (f _ _ h)))
  · exact .inl (.inr ⟨o, g a _ (ne_of_none h hd) (f _ _ h)⟩)
  · exact .inr h

/-! ### rules whose written part is named (in a comprehension) -/
theorem ix_tupK {X : Cx} {K : PySem.W.Frag} (h : X.K = K) : IxR X (rIxT K) := by subst h; exact ix_tup
theorem ix_listK {X : Cx} {K : PySem.W.Frag} (h : X.K = K) : IxR X (rIxL K) := by subst h; exact ix_list
def rTupOf (K : PySem.W.Frag) : List V → Hp → VK → Prop := fun xs H Q => ∃ p ys, xs = [.ref p] ∧ ((SqL K H p ys ∧ ∀ l, H l = none → Q (.ref l) (upd H l (.tup ys))) ∨ (SqT K H p ys ∧ Q (.ref p) H))
theorem call_tuple_ofK {X : Cx} {K : PySem.W.Frag} (h : X.K = K) : CallR X (.type "tuple") (rTupOf K) := by subst h; exact call_tuple_of
/-! ### texts and words -/
/-- signs a to z alone -/
def Wd (z : Str) : Prop := ∀ c ∈ z.cps.toList, 97 ≤ c ∧ c ≤ 122
instance (z : Str) : Decidable (Wd z) := by unfold Wd; infer_instance
def res : List Str := ["true", "false", "add", "sub", "mul", "div", "mod", "min", "max", "abs", "if", "less", "equal", "not", "all", "any"]
theorem app_list (a b : Str) : (a ++ b).cps.toList = a.cps.toList ++ b.cps.toList := by
  show (a.cps ++ b.cps).toList = _
  simp
theorem len_list (a : Str) : a.length = a.cps.toList.length := by
  show a.cps.size = _
  simp
theorem len_app (a b : Str) : (a ++ b).length = a.length + b.length := by
  rw [len_list, app_list, List.length_append, ← len_list, ← len_list]
theorem str_ext {a b : Str} (h : a.cps.toList = b.cps.toList) : a = b := by
  cases a with | mk x => cases b with | mk y =>
  have : x = y := Array.toList_inj.mp h
  rw [this]
theorem Wd.app {a b : Str} (ha : Wd a) (hb : Wd b) : Wd (a ++ b) := fun c hc => by
  rw [app_list] at hc
  rcases List.mem_append.mp hc with h | h
  · exact ha c h
  · exact hb c h
structure Nam (z : Str) : Prop where
  wd : Wd z
  len : 0 < z.length ∧ z.length ≤ 200
  nr : z ∉ res
structure Nm (z : Str) : Prop where
  wd : Wd z
  len : 0 < z.length ∧ z.length ≤ 150

/-! ### lists at an index -/
theorem atI_mem {α : Type} {xs : List α} {i : Int} (h0 : 0 ≤ i) (h1 : i < xs.length) : ∃ v, atI xs i = some v ∧ v ∈ xs := by
  have hk : i.toNat < xs.length := by omega
  have ek : i = ((i.toNat : Nat) : Int) := by omega
  have q : atI xs ((i.toNat : Nat) : Int) = some xs[i.toNat] := atI_nat (List.getElem?_eq_getElem hk)
  rw [← ek] at q
  exact ⟨_, q, List.getElem_mem hk⟩
theorem atI_map {α β : Type} {f : α → β} {xs : List α} {i : Int} (h0 : 0 ≤ i) (h1 : i < xs.length) : ∃ v, atI (xs.map f) i = some (f v) ∧ v ∈ xs := by
  obtain ⟨v, h, m⟩ := atI_mem (xs := xs.map f) h0 (by rw [List.length_map]; exact h1)
  obtain ⟨u, hu, rfl⟩ := List.mem_map.mp m
  exact ⟨u, h, hu⟩
theorem sqd {K : PySem.W.Frag} {H : Hp} {a : Addr} {xs : List V} (h : H a = some (.lst xs)) : SqL K H a xs := .inl (.inl h)
theorem sqt {K : PySem.W.Frag} {H : Hp} {a : Addr} {xs : List V} (h : H a = some (.tup xs)) : SqT K H a xs := .inl (.inl h)
theorem int_eq {i j : Int} (h : decide (V.int i = V.int j) = true) : i = j := V.int.inj (of_decide_eq_true h)
theorem int_ne {i j : Int} (h : ¬ decide (V.int i = V.int j) = true) : i ≠ j := fun e => h (decide_eq_true (by rw [e]))
section
variable {P : Program} {w : World} {K : PySem.W.Frag} {mg : Str → Option Value} {base : Heap}
/-! ### _law_take -/
def spTake : Sp := fun vs H Q _ => ∃ (d : Addr) (m : Int), vs = [.ref d, .int m] ∧ Dr H d ∧ 0 < m ∧ ∀ r H', Go d H H' → 0 ≤ r → r < m → Q (.int r) H'
theorem ok_law_take (T : Txt K mg) : FnOk P w K mg base CX0 1 T.a_law_take T.d_law_take P_law_take spTake := by
  refine T.F_law_take.ok sc_law_take (fun vs H Q E h => ?_) (fun cdv A outer s H vs Q E hr h => ?_)
  · obtain ⟨d, m, rfl, _⟩ := h
    rfl
  obtain ⟨d, m, rfl, hD, hm, q⟩ := h
  refine ⟨_, (pss_cons (ps_if (pt_cmpR op_eq (pe_callB call_len_seq (by rfl) T.z_len PySem.boot_len (pa_cons (pv 0) pa_nil)) pe_int (nomark _))
    (pss_one (ps_ret pe_int))
    pss_nil)
    (pss_one (ps_ret (pe_op op_mod (pe_callTy call_int1 (by rfl) T.z_int (by decide +kernel) (pa_cons (pe_bm0 PySem.F.plainAttrs_list PySem.F.slot_list_pop PySem.F.type_list_pop mt_pop (pv 0)) pa_nil)) (pv 1))))), ?_⟩
  obtain ⟨ns, hd⟩ := hD
  refine ⟨_, rfl, _, _, rfl, .inl (sqd hd), rfl, _, rfl, ?_⟩
  refine ite2 (fun c => ?_) (fun c => ?_)
  · exact q 0 H (Go.refl ⟨ns, hd⟩) (Int.le_refl 0) hm
  · have hn := int_ne c
    rw [List.length_map] at hn
    have hz : ns ≠ [] := by
      rintro rfl
      exact hn rfl
    have hl : 0 < ns.length := List.length_pos_iff.mpr hz
    have he : (ns.map V.int)[(ns.map V.int).length - 1]? = some (.int ns[ns.length - 1]) := by
      rw [List.length_map, List.getElem?_map, List.getElem?_eq_getElem (by omega)]
      rfl
    refine ⟨_, rfl, .inl ⟨rfl, _, sqd hd⟩, _, _, _, rfl, rfl, hd, he, .inl ⟨_, rfl, ?_⟩⟩
    refine ⟨_, rfl, _, _, rfl, rfl, hm, ?_⟩
    refine q _ _ ?_ (Int.emod_nonneg _ (by omega)) (Int.emod_lt_of_pos _ hm)
    rw [← List.map_dropLast]
    exact Go.put _
end
end NL

namespace NL
open PySem PySem.Spec PyProof.Rows L2
theorem yes_if {σ : L2.St} {H : Hp} {a n : Hp → Prop} (h : a H) : tYes σ H (fun b H3 => if b = true then a H3 else n H3) := by
  show (if true = true then a H else n H)
  rw [if_pos rfl]
  exact h
/-- one reading for two ways -/
theorem cutP {B C : Prop} (f : B → C) (b : B) : C := f b
theorem ifT {c : Bool} {A B : Prop} (h : c = true) (a : A) : if c = true then A else B := by
  rw [if_pos h]; exact a
theorem ifF {c : Bool} {A B : Prop} (h : c = false) (b : B) : if c = true then A else B := by
  rw [if_neg (by rw [h]; exact Bool.false_ne_true)]; exact b
theorem atI0 {α : Type} {x : α} {r : List α} : atI (x :: r) 0 = some x := atI_nat (j := 0) rfl
theorem atI1 {α : Type} {x y : α} {r : List α} : atI (x :: y :: r) 1 = some y := atI_nat (j := 1) rfl
theorem boolE {Q : VK} {b b' : Bool} {H : Hp} (h : b = b') (q : Q (.bl b') H) : Q (.bl b) H := by rw [h]; exact q
theorem big {n : Nat} (h : n ≤ 1000000) : n ≤ sizeLine := Nat.le_trans h (by decide)
theorem big' {n : Nat} (h : n ≤ 1000000) : n < sizeLine := Nat.lt_of_le_of_lt h (by decide)
theorem int_in {x : Int} {l : List Int} : inV (.int x) (l.map V.int) = decide (x ∈ l) := by
  unfold inV
  rw [List.any_map]
  induction l with
  | nil => rfl
  | cons a r ih =>
    rw [List.any_cons, ih]
    show (eqV (.int a) (.int x) || _) = _
    have e : eqV (.int a) (.int x) = decide (x = a) := by
      show (a == x) = _
      rw [Bool.beq_eq_decide_eq]
      exact decide_eq_decide.mpr ⟨fun h => h.symm, fun h => h.symm⟩
    rw [e, ← Bool.decide_or]
    exact decide_eq_decide.mpr List.mem_cons.symm
theorem flat_ints' (l : List Int) : (l.map V.int).all flatV = true := by
  induction l with
  | nil => rfl
  | cons a r ih => rw [List.map_cons, List.all_cons, ih]; rfl
theorem notIn_int {x : Int} {l : List Int} : (if true = true then !inV (V.int x) (l.map V.int) else inV (V.int x) (l.map V.int)) = !decide (x ∈ l) := by
  rw [if_pos rfl, int_in]
def rLenK (K : PySem.W.Frag) : List V → Hp → VK → Prop := fun xs H Q => ∃ p ys, xs = [.ref p] ∧ (SqL K H p ys ∨ SqT K H p ys) ∧ Q (.int (ys.length : Nat)) H
theorem call_len_seqK {X : Cx} {K : PySem.W.Frag} (h : X.K = K) : CallR X (.builtin "len") (rLenK K) := by
  subst h
  exact call_len_seq
end NL

namespace NL
open PySem PySem.Spec PyProof.Rows L2
theorem ixN_in {n : Nat} {k : Int} (h0 : 0 ≤ k) (h1 : k < n) : ixN n k = some k.toNat := by
  unfold ixN
  rw [if_pos h0, if_pos h1]
/-- a change at what was not there before -/
theorem same_put {H H' : Hp} {p : Addr} {o : HO} (s : Same H H') (hp : H p = none) : Same H (upd H' p o) := fun b u e => by
  rw [upd_ne (ne_of_none e hp)]
  exact s b u e
section
variable {P : Program} {w : World} {K : PySem.W.Frag} {mg : Str → Option Value} {base : Heap}
def spDraws (K : PySem.W.Frag) : Sp := fun vs H Q _ => ∃ (a : Addr) (ns : List Int) (m : Int), vs = [.ref a, .int m] ∧ SqL K H a (ns.map V.int) ∧ ns.length ≤ 63 ∧ 0 ≤ m ∧ m ≤ 10000 ∧
  ∀ d H', Same H H' → H d = none → Dr H' d → Q (.ref d) H'
theorem ok_law_draws (T : Txt K mg) : FnOk P w K mg base CX0 1 T.a_law_draws T.d_law_draws P_law_draws (spDraws K) := by
  refine T.F_law_draws.ok sc_law_draws (fun vs H Q E h => ?_) (fun cdv A outer s H vs Q E hr h => ?_)
  · obtain ⟨a, ns, m, rfl, _⟩ := h
    rfl
  obtain ⟨a, ns, m, rfl, hS, hl, m0, m1, q⟩ := h
  refine ⟨_, (pss_cons (ps_setLc (i := 2) (own := [("cell", 3)]) (g := (gName 3)) (tt := tYes) rfl sc_law_draws.nd rfl rfl (sw_true rfl rfl rfl (by decide +kernel)) (pi_list (pv 0)) (blkOk_by (N := N_law_draws) (sc := defScope s_law_draws) (by decide +kernel)) (fun _ _ _ _ _ => (pg_name (i := 3) sc_law_draws.nd rfl (Or.inl rfl))) (fun _ _ _ _ _ => pts_nil) (fun _ _ _ _ _ => (pe_callTy call_int1 (by rfl) T.z_int (by decide +kernel) (pa_cons (pv 3) pa_nil))))
    (C8.pss_cut (ps_if (pt_cmpR op_eq (pe_callB call_len_seq (by rfl) T.z_len PySem.boot_len (pa_cons (pv 2) pa_nil)) pe_int (nomark _))
    (pss_one (ps_expr (pe_bm PySem.F.plainAttrs_list PySem.F.slot_list_append PySem.F.type_list_append mt_append (pv 2) (pa_cons pe_int pa_nil))))
    pss_nil)
    (pss_cons (ps_set (i := 4) sc_law_draws.nd rfl (Or.inl rfl) (pe_callTy call_list_of (by rfl) T.z_list (by decide +kernel) (pa_cons (pv 2) pa_nil)))
    (pss_cons (ps_set (i := 5) sc_law_draws.nd rfl (Or.inl rfl) (pe_lst pa_nil))
    (pss_cons (ps_for  PassesOwn.never rfl (pi_range1 (by rfl) T.z_range (pa_cons (pv 1) pa_nil)) (pg_name (i := 6) sc_law_draws.nd rfl (Or.inl rfl))
    (pss_cons (ps_set (i := 7) sc_law_draws.nd rfl (Or.inl rfl) (pe_op op_mod (pv 6) (pe_callB call_len_seq (by rfl) T.z_len PySem.boot_len (pa_cons (pv 2) pa_nil))))
    (pss_one (ps_if (pt_cmpR op_ge (pe_ix ix_list (pv 2) (pv 7) (fun _ _ => rfl)) (pe_op op_pow pe_int pe_int) (nomark _))
    (pss_cons (ps_expr (pe_bm PySem.F.plainAttrs_list PySem.F.slot_list_append PySem.F.type_list_append mt_append (pv 5) (pa_cons (pe_op op_mod (pe_callTy call_int1 (by rfl) T.z_int (by decide +kernel) (pa_cons (pe_ix ix_list (pv 4) (pv 7) (fun _ _ => rfl)) pa_nil)) pe_int) pa_nil)))
    (pss_one (ps_asg (pe_op op_fdiv (pe_ix ix_list (pv 4) (pv 7) (fun _ _ => rfl)) pe_int) (pg_sub (pv 4) (pv 7) set_list))))
    (pss_cons (ps_set (i := 8) sc_law_draws.nd rfl (Or.inl rfl) (pe_op op_mod (pe_callTy call_int1 (by rfl) T.z_int (by decide +kernel) (pa_cons (pe_op op_add (pe_op op_add (pe_op op_mul (pe_ix ix_list (pv 2) (pv 7) (fun _ _ => rfl)) pe_int) (pe_op op_mul (pv 6) pe_int)) pe_int) pa_nil)) pe_int))
    (pss_one (ps_expr (pe_bm PySem.F.plainAttrs_list PySem.F.slot_list_append PySem.F.type_list_append mt_append (pv 5) (pa_cons (pe_op op_mod (pe_callTy call_int1 (by rfl) T.z_int (by decide +kernel) (pa_cons (pe_op op_add (pe_op op_add (pe_op op_mul (pv 8) (pv 8)) (pe_op op_mul pe_int (pv 8))) (pv 6)) pa_nil)) pe_int) pa_nil)))))))))
    (pss_cons (ps_expr (pe_bm0 PySem.F.plainAttrs_list PySem.F.slot_list_reverse PySem.F.type_list_reverse mt_reverse (pv 5)))
    (pss_one (ps_ret (pv 5))))))))), ?_⟩
  -- cells
  refine ⟨_, rfl, a, rfl, ⟨_, hS⟩, fun c hc => ?_⟩
  refine lc_list (K := K) (a := a) (xs := ns.map V.int) (fun (j : Nat) (H' : Hp) => Same H H' ∧ H' c = some (.lst ((ns.take j).map V.int))) ?_ ?_ ?_ ?_
  · exact ⟨same_new hc _, by rw [upd_same, List.take_zero]; rfl⟩
  · rintro i H' _ ⟨s1, _⟩
    exact s1.seq hS
  · rintro i x H' hx ⟨s1, e1⟩
    rw [List.getElem?_map] at hx
    cases hn : ns[i]? with
    | none => rw [hn] at hx; cases hx
    | some n =>
      rw [hn] at hx
      obtain rfl : V.int n = x := Option.some.inj hx
      refine ⟨rfl, yes_if ?_⟩
      refine ⟨_, rfl, .inl ⟨n, rfl, _, e1, ?_, same_put s1 hc, ?_⟩⟩
      · rw [List.length_map, List.length_take]
        exact big' (by omega)
      · rw [upd_same, List.take_add_one, hn, List.map_append]
        rfl
  · rintro H1 ⟨s1, e1⟩
    rw [List.length_map, List.take_length] at e1
    -- at least one cell
    refine ⟨fun σ H2 => ∃ cs : List Int, cs ≠ [] ∧ cs.length ≤ 63 ∧ σ = [some (.ref a), some (.int m), some (.ref c), none, none, none, none, none, none] ∧ Same H H2 ∧ H2 c = some (.lst (cs.map V.int)), ?_, ?_⟩
    · refine ⟨_, rfl, _, _, rfl, .inl (sqd e1), rfl, _, rfl, ?_⟩
      refine ite2 (fun z => ?_) (fun z => ?_)
      · refine ⟨_, rfl, .inl ⟨rfl, _, sqd e1⟩, c, _, _, rfl, rfl, e1, ?_, ?_⟩
        · rw [List.length_map]
          exact big' (by omega)
        · have hz := int_eq z
          rw [List.length_map] at hz
          have : ns = [] := List.length_eq_zero_iff.mp (by omega)
          subst this
          exact ⟨[0], by simp, by decide, rfl, same_put s1 hc, upd_same⟩
      · have hz := int_ne z
        rw [List.length_map] at hz
        refine ⟨ns, ?_, hl, rfl, s1, e1⟩
        rintro rfl
        exact hz rfl
    · rintro σ H2 ⟨cs, hcs, hcl, rfl, s2, e2⟩
      have hpos : 0 < cs.length := List.length_pos_iff.mpr hcs
      -- rest, draws
      refine ⟨_, rfl, _, _, rfl, .inl (sqd e2), fun r hr2 => ?_⟩
      have ncr : c ≠ r := ne_of_none e2 hr2
      refine ⟨(Nat.le_of_ble_eq_true rfl), fun d hd => ?_⟩
      have ncd : c ≠ d := ne_of_none (by rw [upd_ne ncr]; exact e2) hd
      have nrd : r ≠ d := ne_of_none upd_same hd
      have hHr : H r = none := s2.free hr2
      have hHd : H d = none := (s2.trans (same_new hr2 _)).free hd
      refine ⟨_, rfl, m, rfl, by omega, by omega, for_range (lo := 0) (n := m.toNat) (fun (j : Nat) (σ : L2.St) (H' : Hp) => ∃ (rs ds : List Int) (y1 y2 y3 : Option V), σ = [some (.ref a), some (.int m), some (.ref c), none, some (.ref r), some (.ref d), y1, y2, y3] ∧ Same H H' ∧ H' c = some (.lst (cs.map V.int)) ∧ H' r = some (.lst (rs.map V.int)) ∧ rs.length = cs.length ∧ H' d = some (.lst (ds.map V.int)) ∧ ds.length ≤ j) ?_ ?_ ?_⟩
      · refine ⟨cs, [], none, none, none, rfl, (s2.trans (same_new hr2 _)).trans (same_new hd _), ?_, ?_, rfl, upd_same, Nat.le_refl _⟩
        · rw [upd_ne ncd, upd_ne ncr]; exact e2
        · rw [upd_ne nrd]; exact upd_same
      · rintro j σ H' hj ⟨rs, ds, y1, y2, y3, rfl, s3, ec, er, hrl, ed, hdl⟩
        have b0 := Int.emod_nonneg ((0 : Int) + (j : Int)) (show (((cs.map V.int).length : Nat) : Int) ≠ 0 by rw [List.length_map]; omega)
        have b1 : (((0 : Int) + (j : Int)) % (((cs.map V.int).length : Nat) : Int)) < (cs.length : Int) := by
          have h := Int.emod_lt_of_pos ((0 : Int) + (j : Int)) (show 0 < (((cs.map V.int).length : Nat) : Int) by rw [List.length_map]; omega)
          rw [List.length_map] at h ⊢
          exact h
        refine ⟨_, rfl, _, rfl, _, _, rfl, .inl (sqd ec), _, _, rfl, rfl, (by show 0 < (((cs.map V.int).length : Nat) : Int); rw [List.length_map]; omega), ?_⟩
        obtain ⟨cv, hcv, _⟩ := atI_map (f := V.int) (xs := cs) b0 b1
        obtain ⟨rv, hrv, _⟩ := atI_map (f := V.int) (xs := rs) b0 (by omega)
        refine ⟨_, rfl, _, rfl, _, _, _, _, rfl, rfl, sqd ec, hcv, _, _, rfl, rfl, ⟨by decide, by decide, by decide⟩, _, _, rfl, rfl, _, rfl, ?_⟩
        refine ite2 (fun z => ?_) (fun z => ?_)
        · refine ⟨_, rfl, .inl ⟨rfl, _, sqd ed⟩, _, rfl, _, rfl, _, _, _, _, rfl, rfl, sqd er, hrv, .inl ⟨_, rfl, _, _, rfl, rfl, (by show (0 : Int) < 1000; decide), d, _, _, rfl, rfl, ed, ?_, ?_⟩⟩
          · rw [List.length_map]
            exact big' (by omega)
          · have er2 : ∀ o, (upd H' d o) r = some (.lst (rs.map V.int)) := fun o => by rw [upd_ne nrd]; exact er
            refine ⟨_, rfl, _, rfl, _, _, _, _, rfl, rfl, sqd (er2 _), hrv, _, _, rfl, rfl, ⟨by decide, by decide⟩, _, rfl, _, rfl, r, _, _, _, rfl, rfl, er2 _, ixN_in b0 (by have h : (rs.map V.int).length = rs.length := List.length_map _; omega), ?_⟩
            refine ⟨rs.set (((0 : Int) + (j : Int)) % (((cs.map V.int).length : Nat) : Int)).toNat (rv / 1000), ds ++ [rv % 1000], _, _, _, rfl, same_put (same_put s3 hHd) hHr, ?_, ?_, ?_, ?_, ?_⟩
            · rw [upd_ne ncr, upd_ne ncd]; exact ec
            · rw [upd_same, List.map_set]
            · rw [List.length_set]; exact hrl
            · rw [upd_ne nrd.symm, upd_same, List.map_append]; rfl
            · rw [List.length_append, List.length_singleton]; omega
        · have o0 := fun z : Int => Int.emod_nonneg z (by decide : (2147483647 : Int) ≠ 0)
          have o1 := fun z : Int => Int.emod_lt_of_pos z (by decide : (0 : Int) < 2147483647)
          refine ⟨_, rfl, _, rfl, _, _, _, _, rfl, rfl, sqd ec, hcv, _, _, rfl, rfl, .inr ⟨by decide, by decide⟩, _, rfl, _, _, rfl, rfl, .inr ⟨by decide, by decide⟩, _, _, rfl, rfl, _, _, rfl, rfl, .inl ⟨_, rfl, _, _, rfl, rfl, (by show (0 : Int) < 2147483647; decide), ?_⟩⟩
          refine ⟨_, rfl, .inl ⟨rfl, _, sqd ed⟩, _, rfl, _, rfl, _, _, rfl, rfl, ?_, ?_⟩
          · left
            have h1 := o0 (cv * 48271 + (0 + (j : Int)) * 69621 + 11)
            have h2 := o1 (cv * 48271 + (0 + (j : Int)) * 69621 + 11)
            constructor
            · show -(2 ^ 64) < _
              omega
            · show _ < 2 ^ 64
              omega
          · refine ⟨_, rfl, _, _, rfl, rfl, .inl ⟨by decide, by decide⟩, _, _, rfl, rfl, _, rfl, _, _, rfl, rfl, .inl ⟨_, rfl, _, _, rfl, rfl, (by show (0 : Int) < 1000003; decide), d, _, _, rfl, rfl, ed, ?_, ?_⟩⟩
            · rw [List.length_map]
              exact big' (by omega)
            · refine ⟨rs, ds ++ [(((cv * 48271 + (0 + (j : Int)) * 69621 + 11) % 2147483647) * ((cv * 48271 + (0 + (j : Int)) * 69621 + 11) % 2147483647) + 3 * ((cv * 48271 + (0 + (j : Int)) * 69621 + 11) % 2147483647) + (0 + (j : Int))) % 1000003], _, _, _, rfl, same_put s3 hHd, ?_, ?_, hrl, ?_, ?_⟩
              · rw [upd_ne ncd]; exact ec
              · rw [upd_ne nrd]; exact er
              · rw [upd_same, List.map_append]; rfl
              · rw [List.length_append, List.length_singleton]; omega
      · rintro σ H' ⟨rs, ds, y1, y2, y3, rfl, s3, ec, er, hrl, ed, hdl⟩
        refine ⟨_, rfl, .inl ⟨rfl, _, sqd ed⟩, d, _, rfl, rfl, ed, ?_⟩
        refine ⟨_, rfl, q d _ (same_put s3 hHd) hHd ⟨ds.reverse, ?_⟩⟩
        rw [upd_same, List.map_reverse]
end
end NL

namespace NL
open PySem PySem.Spec PyProof.Rows L2
/-! ### rows and what stands in them -/
def Each {α : Type} (R : α → V → Prop) (l : List α) (xs : List V) : Prop := xs.length = l.length ∧ ∀ (k : Nat) a x, l[k]? = some a → xs[k]? = some x → R a x
theorem Each.nil {α : Type} {R : α → V → Prop} : Each R [] [] := ⟨rfl, fun k a x h => by simp at h⟩
theorem Each.mono {α : Type} {R S : α → V → Prop} {l : List α} {xs : List V} (h : Each R l xs) (f : ∀ a x, R a x → S a x) : Each S l xs := ⟨h.1, fun k a x e g => f a x (h.2 k a x e g)⟩
theorem Each.cons {α : Type} {R : α → V → Prop} {l : List α} {xs : List V} {a : α} {x : V} (r : R a x) (h : Each R l xs) : Each R (a :: l) (x :: xs) := ⟨by rw [List.length_cons, List.length_cons, h.1], fun k b y e g => by
  cases k with
  | zero => cases e; cases g; exact r
  | succ k => exact h.2 k b y e g⟩
theorem Each.app {α : Type} {R : α → V → Prop} {l m : List α} {xs ys : List V} (h : Each R l xs) (g : Each R m ys) : Each R (l ++ m) (xs ++ ys) := by
  refine ⟨by rw [List.length_append, List.length_append, h.1, g.1], fun k r x e f => ?_⟩
  by_cases hk : k < l.length
  · rw [List.getElem?_append_left hk] at e
    rw [List.getElem?_append_left (by rw [h.1]; exact hk)] at f
    exact h.2 k r x e f
  · rw [List.getElem?_append_right (by omega)] at e
    rw [List.getElem?_append_right (by rw [h.1]; omega), h.1] at f
    exact g.2 _ r x e f
theorem Each.snoc {α : Type} {R : α → V → Prop} {l : List α} {xs : List V} {a : α} {x : V} (h : Each R l xs) (r : R a x) : Each R (l ++ [a]) (xs ++ [x]) := h.app (.cons r .nil)
theorem Each.take {α : Type} {R : α → V → Prop} {l : List α} {xs : List V} (h : Each R l xs) (n : Nat) : Each R (l.take n) (xs.take n) := ⟨by rw [List.length_take, List.length_take, h.1], fun k a x e g => by
  rw [List.getElem?_take] at e g
  split at e
  · rename_i hk
    rw [if_pos hk] at g
    exact h.2 k a x e g
  · cases e⟩
theorem Each.drop {α : Type} {R : α → V → Prop} {l : List α} {xs : List V} (h : Each R l xs) (n : Nat) : Each R (l.drop n) (xs.drop n) := ⟨by rw [List.length_drop, List.length_drop, h.1], fun k a x e g => by
  rw [List.getElem?_drop] at e g
  exact h.2 _ a x e g⟩
theorem Each.set {α : Type} {R : α → V → Prop} {l : List α} {xs : List V} {a : α} {x : V} (h : Each R l xs) (n : Nat) (r : R a x) : Each R (l.set n a) (xs.set n x) := ⟨by rw [List.length_set, List.length_set, h.1], fun k b y e g => by
  rw [List.getElem?_set] at e g
  by_cases hk : n = k
  · rw [if_pos hk] at e g
    by_cases hl : n < l.length
    · rw [if_pos hl] at e
      rw [if_pos (by rw [h.1]; exact hl)] at g
      cases e; cases g; exact r
    · rw [if_neg hl] at e
      cases e
  · rw [if_neg hk] at e g
    exact h.2 k b y e g⟩
theorem Each.at {α : Type} {R : α → V → Prop} {l : List α} {xs : List V} {a : α} {k : Nat} (h : Each R l xs) (e : l[k]? = some a) : ∃ x, xs[k]? = some x ∧ R a x := by
  have hk : k < xs.length := by
    rw [h.1]
    exact (List.getElem?_eq_some_iff.mp e).1
  exact ⟨_, List.getElem?_eq_getElem hk, h.2 k a _ e (List.getElem?_eq_getElem hk)⟩
theorem Each.atI {α : Type} {R : α → V → Prop} {l : List α} {xs : List V} {i : Int} (h : Each R l xs) (h0 : 0 ≤ i) (h1 : i < l.length) : ∃ a x, l[i.toNat]? = some a ∧ atI xs i = some x ∧ R a x := by
  have hk : i.toNat < l.length := by omega
  obtain ⟨x, hx, r⟩ := h.at (List.getElem?_eq_getElem hk)
  have q : L2.atI xs ((i.toNat : Nat) : Int) = some x := atI_nat hx
  rw [show ((i.toNat : Nat) : Int) = i by omega] at q
  exact ⟨_, x, List.getElem?_eq_getElem hk, q, r⟩
/-! ### options, positions, arenas -/
abbrev Opt := List Int
abbrev Pos' := List Opt
abbrev Ar := List Pos'
def OptIn (H : Hp) (o : Opt) (v : V) : Prop := ∃ b, v = .ref b ∧ H b = some (.tup (o.map V.int))
def PosIn (H : Hp) (os : Pos') (v : V) : Prop := ∃ b xs, v = .ref b ∧ H b = some (.tup xs) ∧ Each (OptIn H) os xs
def ArIn (H : Hp) (A : Ar) (v : V) : Prop := ∃ b xs, v = .ref b ∧ H b = some (.tup xs) ∧ Each (PosIn H) A xs
theorem OptIn.tp {H H' : Hp} {o : Opt} {v : V} (t : Tp H H') (h : OptIn H o v) : OptIn H' o v := by
  obtain ⟨b, e, q⟩ := h
  exact ⟨b, e, t _ _ q⟩
theorem PosIn.tp {H H' : Hp} {o : Pos'} {v : V} (t : Tp H H') (h : PosIn H o v) : PosIn H' o v := by
  obtain ⟨b, xs, e, q, r⟩ := h
  exact ⟨b, xs, e, t _ _ q, r.mono fun a x => OptIn.tp t⟩
theorem ArIn.tp {H H' : Hp} {o : Ar} {v : V} (t : Tp H H') (h : ArIn H o v) : ArIn H' o v := by
  obtain ⟨b, xs, e, q, r⟩ := h
  exact ⟨b, xs, e, t _ _ q, r.mono fun a x => PosIn.tp t⟩
/-- an option of an arena with n positions -/
structure OptG (n : Int) (o : Opt) : Prop where
  ne : o ≠ []
  len : o.length ≤ 60
  mem : ∀ s ∈ o, -1 ≤ s ∧ s < n
  asc : o.Pairwise (· < ·)
def PosG (n : Int) (os : Pos') : Prop := os.length ≤ 12 ∧ ∀ o ∈ os, OptG n o
def ArG (A : Ar) : Prop := A.length ≤ 400 ∧ ∀ os ∈ A, PosG A.length os
theorem OptG.one {n s : Int} (h0 : -1 ≤ s) (h1 : s < n) : OptG n [s] := ⟨by simp, by simp, fun t ht => by rw [List.mem_singleton.mp ht]; exact ⟨h0, h1⟩, List.pairwise_singleton _ _⟩
theorem asc_of {l m : List Int} (h : l.Perm m) (hm : m.Nodup) (hp : l.Pairwise (· ≤ ·)) : l.Pairwise (· < ·) := by
  have hn : l.Nodup := h.nodup_iff.mpr hm
  refine (hp.and hn).imp fun {a b} h => ?_
  obtain ⟨h1, h2⟩ := h
  omega
theorem tp_put {H H' : Hp} {p : Addr} {o : List V} {o' : HO} (t : Tp H H') (h : H' p = some (.lst o)) : Tp H (upd H' p o') := fun a xs e => by
  have n : a ≠ p := fun q => by
    have := t a xs e
    rw [q, h] at this
    cases this
  rw [upd_ne n]
  exact t a xs e
theorem Go.put2 {d p : Addr} {H H' : Hp} {o : HO} (g : Go d H H') (hp : H p = none) (n : p ≠ d) : Go d H (upd H' p o) := ⟨fun b u hb e => by
  rw [upd_ne (ne_of_none e hp)]
  exact g.fr b u hb e, by
  obtain ⟨ns, e⟩ := g.dr
  exact ⟨ns, by rw [upd_ne n.symm]; exact e⟩⟩
theorem new_ne {d p : Addr} {H : Hp} (h : Dr H d) (hp : H p = none) : p ≠ d := by
  rintro rfl
  obtain ⟨ns, e⟩ := h
  rw [hp] at e
  cases e
theorem Go.free {d p : Addr} {H H' : Hp} (g : Go d H H') (hp : H' p = none) : H p = none := by
  cases e : H p with
  | none => rfl
  | some o =>
    by_cases hd : p = d
    · obtain ⟨ns, q⟩ := g.dr
      rw [hd, q] at hp
      cases hp
    · rw [g.fr p o hd e] at hp
      cases hp
end NL

set_option maxHeartbeats 4000000
namespace NL
open PySem PySem.Spec PyProof.Rows L2
section
variable {P : Program} {w : World} {A : Around} {E : Value → Shared → Prop} {s : Shared}
set_option maxHeartbeats 3200000 in
theorem call_set_ints {l : Addr} {items : Array Value} (ns : List Int) {Q : Value → Shared → Prop} (hh : A.handled = none) (hl : s.heap.IsList l items) (hit : IntsAre items.toList ns) (hb : ns.length + 1 < scanBound)
    (h : ∀ (h' : Heap) (tk c : Nat), SetR w h' s.heap.objs.size (fun j => decide (j ∈ ns)) c → c ≤ ns.length → (∀ b o, s.heap.get? b = some o → h'.get? b = some o) → Q (.ref s.heap.objs.size) { s with heap := h', toks := tk }) :
    wpAny (model P w) A (call (.type "set") [.ref l]) Q E s := by
  have hisz : items.size = ns.length := by
    have q := IntsAre.length hit
    rw [Array.length_toList] at q
    exact q
  obtain ⟨c, tl, hmro⟩ := F.called_set.mro
  have hmade := F.called_set.made
  have hsub := F.called_set.sub
  refine wpAny_call (codeAny_of_tree ?_)
  show wpAny _ _ (callAny (.type "set") _) _ _ _
  refine wpAny_pure ⟨Code.quiet_builtin _ (by decide +kernel), codeAny_builtin F.entry_type_call ?_⟩
  rw [Around.under_plain (weight_type_call_type "set" [.ref l] []) rfl]
  have h1 := F.called_set.notType
  have h2 := F.called_set.canCreate
  have hct := F.typeCall_set_1 (.ref l)
  repeat (any_goals (first | assumption | wp_step))
  refine codeAny_mono (code_set_led1 (.ref l) (E := E) (Q₁ := fun obj s₁ => obj = .ref s.heap.objs.size ∧ s₁ = { s with heap := s.heap.push { cls := .type "set", dict := none, data := .set #[] 0 (.fresh 0 0 (!w.params.followText "set-order")) } }) ⟨rfl, rfl⟩) fun r s₁ hr => ?_
  cases r with
  | error e => exact hr
  | ok fl =>
    cases fl with
    | ret obj =>
      obtain ⟨rfl, rfl⟩ := hr
      have hS : (s.heap.push { cls := .type "set", dict := none, data := .set #[] 0 (.fresh 0 0 (!w.params.followText "set-order")) }).get? s.heap.objs.size = some { cls := .type "set", dict := none, data := .set #[] 0 (.fresh 0 0 (!w.params.followText "set-order")) } := Heap.get?_push_size _ rfl
      have hT : Shared.TypeIs { s with heap := s.heap.push { cls := .type "set", dict := none, data := .set #[] 0 (.fresh 0 0 (!w.params.followText "set-order")) } } (.ref s.heap.objs.size) "set" := ⟨_, hS, rfl⟩
      have hli := F.called_set.init.lookup
      have hbi := F.called_set.init.bind (.ref s.heap.objs.size)
      repeat (any_goals (first | assumption | wp_step))
      refine codeAny_mono (codeAny_call_builtin (R := wants (fun r s₂ => r = .none ∧ ∃ h' tk c, s₂ = { s with heap := h', toks := tk } ∧ SetR w h' s.heap.objs.size (fun j => decide (j ∈ ns)) c ∧ c ≤ ns.length ∧
          (∀ b o, s.heap.get? b = some o → h'.get? b = some o)) E) F.called_set.init.plain F.entry_set_init (check_set_init_1 hT ?_)) fun r₂ s₂ hr₂ => ?_
      · obtain ⟨ol, hol, hcl, nl, hdl⟩ := hl
        obtain ⟨ocls, odict, odata, oslots⟩ := ol
        simp only at hcl hdl
        subst hcl; subst hdl
        have hol' : (s.heap.push { cls := .type "set", dict := none, data := .set #[] 0 (.fresh 0 0 (!w.params.followText "set-order")) }).get? l = some { cls := .type "list", dict := odict, data := .seq items nl, slots := oslots } := Heap.get?_push_of_some _ hol
        have hsls := F.sub_list_set
        have hslf := F.sub_list_frozenset
        have hne : (Value.type "list" == Value.type "dict") = false := by decide
        have hl1 : (s.heap.push { cls := .type "set", dict := none, data := .set #[] 0 (.fresh 0 0 (!w.params.followText "set-order")) }).IsList l items := ⟨_, hol', rfl, nl, rfl⟩
        unfold Builtin.«set.__init__» noKeywords Builtin.Frozenset.updateFrom
        generalize hPI : pyIter = PI
        wp_walk
        subst hPI
        refine wpAny_pyIter_list hl1 ?_
        refine wpAny_bind (wpAny_runValue ?_)
        have hlS : l < s.heap.objs.size := Heap.lt_size hol
        have hh3 : A.in1.in1.in1.handled = none := by simp [hh]
        have hneI : l ≠ (s.heap.push { cls := .type "set", dict := none, data := .set #[] 0 (.fresh 0 0 (!w.params.followText "set-order")) }).objs.size := by
          rw [Heap.size_push]; exact Nat.ne_of_lt (Nat.lt_succ_of_lt hlS)
        have hSf : s.heap.objs.size ∉ [(s.heap.push { cls := .type "set", dict := none, data := .set #[] 0 (.fresh 0 0 (!w.params.followText "set-order")) }).objs.size, l] := by
          rw [Heap.size_push]; simp only [List.mem_cons, List.mem_singleton, List.not_mem_nil, or_false, not_or]
          exact ⟨Nat.ne_of_lt (Nat.lt_succ_self _), Nat.ne_of_gt hlS⟩
        have hval : ∀ (i : Nat) (v : Value), items[i]? = some v → ∃ k t, ns[i]? = some k ∧ v = .int k t := fun i v hv => by
          obtain ⟨n, t, e1, e2⟩ := IntsAre.at hit i v (by rw [Array.getElem?_toList]; exact hv)
          exact ⟨n, t, e2, e1⟩
        refine set_update_ints ((Walks.list hh3 _ l hneI items).toS) s.heap.objs.size
          hSf ns hisz hb hval (items.size - 0) 0 _ (by omega) (Nat.zero_le _)
          ⟨⟨_, Heap.get?_push_size _ rfl, rfl, rfl⟩, (hl1.push _)⟩ ?hS0 ?hR
        case hS0 =>
          have hget : ((s.heap.push { cls := .type "set", dict := none, data := .set #[] 0 (.fresh 0 0 (!w.params.followText "set-order")) }).push { cls := .type "list_iterator", data := .fields #[.ref l, .int 0 0] }).get? s.heap.objs.size
              = some { cls := .type "set", dict := none, data := .set #[] 0 (.fresh 0 0 (!w.params.followText "set-order")) } := Heap.get?_push_of_some _ hS
          exact ⟨0, Nat.le_refl 0, setR_new_at hget⟩
        case hR =>
          intro s' c' hm hc' hS'
          obtain ⟨h', g2, d', tk', os'⟩ := s'
          have eg : g2 = s.gens := hm.gens
          have ed : d' = s.drawn := hm.drawn
          have eo : os' = s.os := hm.os
          subst eg; subst ed; subst eo
          show wpAny _ _ _ _ _ _
          refine wpAny_pure ?_
          show wpAny _ _ (ret Value.none) _ _ _
          rw [hisz] at hc'
          refine wpAny_pure ⟨rfl, h', tk', c', rfl, hS', hc', fun b o e => ?_⟩
          have hb0 : b < s.heap.objs.size := Heap.lt_size e
          have hb1 : b ≠ s.heap.objs.size := Nat.ne_of_lt hb0
          have hb2 : b ≠ (s.heap.push { cls := .type "set", dict := none, data := .set #[] 0 (.fresh 0 0 (!w.params.followText "set-order")) }).objs.size := by
            rw [Heap.size_push]; exact Nat.ne_of_lt (Nat.lt_succ_of_lt hb0)
          exact hm.heap b o (by simp only [List.mem_cons, List.mem_singleton, List.not_mem_nil, or_false, not_or]; exact ⟨hb1, hb2⟩) (Heap.get?_push_of_some _ (Heap.get?_push_of_some _ e))
      · cases r₂ with
        | error e => exact hr₂
        | ok fl₂ =>
          cases fl₂ with
          | ret r =>
            obtain ⟨rfl, h', tk, c', rfl, hS', hc', hk'⟩ := hr₂
            repeat (any_goals (first | assumption | wp_step))
            exact h _ _ _ hS' hc' hk'
          | _ => exact hr₂.elim
    | _ => exact hr.elim
end
variable {X : Cx}
def rSetOfI (K : PySem.W.Frag) (w : World) : List V → Hp → VK → Prop := fun xs H Q => ∃ (l : Addr) (ns : List Int), xs = [.ref l] ∧ SqL K H l (ns.map V.int) ∧ ns.length < 64 ∧ ∀ a c, H a = none → c ≤ ns.length → Q (.ref a) (upd H a (SetO w a (fun j => decide (j ∈ ns)) c))
theorem cr_setOfI (hc : X.calm = true) : CallR X (.type "set") (rSetOfI X.K X.w) := by
  intro pins s σ H xs us Q I r h
  obtain ⟨l, ks, rfl, hl, hf, q⟩ := h
  rw [Vals.ref1 r]
  obtain ⟨its, rv, pl, hz⟩ := I.list hl
  have hn : H s.heap.objs.size = none := I.hok.fresh (Nat.le_refl _)
  refine call_set_ints (P := X.prog) (w := X.w) ks (I.ok.hd hc) pl.isList (by simpa using ints_of_vals rv) (by unfold scanBound; omega) fun h' tk c R hc' k => ?_
  exact ⟨.ref s.heap.objs.size, upd H s.heap.objs.size (SetO X.w s.heap.objs.size _ c), I.laid (t' := tk) k (Nat.le_refl _) (setO_new R), rfl, q _ c hn hc'⟩
end NL

namespace NL
open PySem PySem.Spec PyProof.Rows L2
theorem cut_tl {x : V} {r : List V} : cutV (x :: r) (some 1) none = r := by
  unfold cutV
  rw [show HT.sIx (x :: r).length 0 (some 1) = min 1 (x :: r).length from HT.sIx_nat _ _ 1, HT.sIx_none, List.length_cons, show min 1 (r.length + 1) = 1 by omega]
  simp
/-- a position of an arena with n positions, options of at most two successors -/
def PosH (n : Int) (os : Pos') : Prop := os.length ≤ 12 ∧ ∀ o ∈ os, OptG n o ∧ o.length ≤ 2
theorem asc_lt {l : List Int} (h : l.Pairwise (· < ·)) : l.Nodup := h.imp fun {a b} h e => by omega
theorem newH {H : Hp} {p : Addr} (hp : H p = none) (o : HO) : ∃ H', upd H p o = H' ∧ Same H H' ∧ H' p = some o := ⟨_, rfl, same_new hp _, upd_same⟩
section
variable {P : Program} {w : World} {K : PySem.W.Frag} {mg : Str → Option Value} {base : Heap}
/-! ### _law_great -/
def spGreat : Sp := fun vs H Q _ => ∃ d : Addr, vs = [.ref d] ∧ Dr H d ∧ ∀ v A H', Go d H H' → ArIn H' A v → ArG A → A.length ≤ 46 → 9 ≤ A.length → (∀ os ∈ A, ∀ o ∈ os, o.length ≤ 2) → Q v H'
theorem ok_law_great (T : Txt K mg) : FnOk P w K mg base CX0 2 T.a_law_great T.d_law_great P_law_great spGreat := by
  have G_law_take := ok_law_take (P := P) (w := w) (base := base) T
  refine T.F_law_great.ok sc_law_great (fun vs H Q E h => ?_) (fun cdv A outer s H vs Q E hr h => ?_)
  · obtain ⟨d, rfl, _⟩ := h
    rfl
  obtain ⟨d, rfl, hD, q⟩ := h
  refine ⟨_, (pss_cons (ps_set (i := 1) sc_law_great.nd rfl (Or.inl rfl) (pe_op op_add pe_int (pe_call G_law_take (hr.mono (by omega)) (by rfl) T.m_law_take T.F_law_take.kp T.b_law_take .nil pass0 (pa_cons (pv 0) (pa_cons pe_int pa_nil)))))
    (pss_cons (ps_set (i := 2) sc_law_great.nd rfl (Or.inl rfl) (pe_call G_law_take (hr.mono (by omega)) (by rfl) T.m_law_take T.F_law_take.kp T.b_law_take .nil pass0 (pa_cons (pv 0) (pa_cons (pv 1) pa_nil))))
    (pss_cons (ps_set (i := 3) sc_law_great.nd rfl (Or.inl rfl) (pe_call G_law_take (hr.mono (by omega)) (by rfl) T.m_law_take T.F_law_take.kp T.b_law_take .nil pass0 (pa_cons (pv 0) (pa_cons (pv 1) pa_nil))))
    (pss_cons (ps_set (i := 4) sc_law_great.nd rfl (Or.inl rfl) (pe_op op_add pe_int (pe_call G_law_take (hr.mono (by omega)) (by rfl) T.m_law_take T.F_law_take.kp T.b_law_take .nil pass0 (pa_cons (pv 0) (pa_cons (pe_ix ix_list (pe_lst (pa_cons pe_int (pa_cons pe_int pa_nil))) (pe_call G_law_take (hr.mono (by omega)) (by rfl) T.m_law_take T.F_law_take.kp T.b_law_take .nil pass0 (pa_cons (pv 0) (pa_cons pe_int pa_nil))) (fun _ _ => rfl)) pa_nil)))))
    (pss_cons (ps_set (i := 5) sc_law_great.nd rfl (Or.inl rfl) (pe_call G_law_take (hr.mono (by omega)) (by rfl) T.m_law_take T.F_law_take.kp T.b_law_take .nil pass0 (pa_cons (pv 0) (pa_cons pe_int pa_nil))))
    (pss_cons (ps_set (i := 6) sc_law_great.nd rfl (Or.inl rfl) (pe_lst pa_nil))
    (pss_cons (ps_for  PassesOwn.never rfl (pi_range1 (by rfl) T.z_range (pa_cons (pv 1) pa_nil)) (pg_name (i := 7) sc_law_great.nd rfl (Or.inl rfl))
    (pss_cons (ps_set (i := 8) sc_law_great.nd rfl (Or.inl rfl) (pe_lst (pa_cons (pe_tup (pa_cons (pe_op op_mod (pe_callTy call_int1 (by rfl) T.z_int (by decide +kernel) (pa_cons (pe_op op_add (pv 7) pe_int) pa_nil)) (pv 1)) pa_nil)) (pa_cons (pe_callTy call_tuple_of (by rfl) T.z_tuple (by decide +kernel) (pa_cons (pe_callB (cr_sortedSet rfl) (by rfl) T.z_sorted (by decide +kernel) (pa_cons (pe_callTy (cr_setOfI rfl) (by rfl) T.z_set (by decide +kernel) (pa_cons (pe_lst (pa_cons (pe_op op_mod (pe_callTy call_int1 (by rfl) T.z_int (by decide +kernel) (pa_cons (pe_op op_add (pe_op op_mul (pv 2) (pv 7)) (pv 3)) pa_nil)) (pv 1)) (pa_cons (pe_op op_mod (pe_callTy call_int1 (by rfl) T.z_int (by decide +kernel) (pa_cons (pe_op op_add (pe_op op_mul (pv 7) (pv 7)) (pv 2)) pa_nil)) (pv 1)) pa_nil))) pa_nil)) pa_nil)) pa_nil)) pa_nil))))
    (C8.pss_cut (ps_if (pt_cmpR op_eq (pe_op op_mod (pe_callTy call_int1 (by rfl) T.z_int (by decide +kernel) (pa_cons (pe_op op_add (pv 7) (pv 3)) pa_nil)) (pv 4)) pe_int (nomark _))
    (pss_one (ps_set (i := 8) sc_law_great.nd rfl (Or.inl rfl) (pe_slice sl_list (pv 8) (po_some pe_int) po_none)))
    pss_nil)
    (C8.pss_cut (ps_if (PW.pt (pw_and (pt_cmpR op_eq (pe_op op_mod (pe_callTy call_int1 (by rfl) T.z_int (by decide +kernel) (pa_cons (pe_op op_add (pv 7) (pv 2)) pa_nil)) (pe_op op_add (pv 4) pe_int)) pe_int (nomark _)) (pw_and1 (pt_cmpR op_gt (pv 5) pe_int (nomark _)))))
    (pss_one (ps_set (i := 8) sc_law_great.nd rfl (Or.inl rfl) (pe_ix ix_list (pe_lst (pa_cons (pe_lst (pa_cons (pe_tup (pa_cons (pe_un un_neg pe_int) (pa_cons (pv 7) pa_nil))) pa_nil)) (pa_cons (pe_lst pa_nil) (pa_cons (pe_lst (pa_cons (pe_tup (pa_cons (pe_un un_neg pe_int) pa_nil)) (pa_cons (pe_tup (pa_cons (pe_op op_mod (pe_callTy call_int1 (by rfl) T.z_int (by decide +kernel) (pa_cons (pe_op op_add (pv 7) pe_int) pa_nil)) (pv 1)) pa_nil)) pa_nil))) pa_nil)))) (pe_op op_sub (pv 5) pe_int) (fun _ _ => rfl))))
    pss_nil)
    (pss_one (ps_expr (pe_bm PySem.F.plainAttrs_list PySem.F.slot_list_append PySem.F.type_list_append mt_append (pv 6) (pa_cons (pe_callTy call_tuple_of (by rfl) T.z_tuple (by decide +kernel) (pa_cons (pv 8) pa_nil)) pa_nil))))))))
    (pss_one (ps_ret (pe_callTy call_tuple_of (by rfl) T.z_tuple (by decide +kernel) (pa_cons (pv 6) pa_nil))))))))))), ?_⟩
  refine ⟨_, rfl, d, 37, rfl, hD, by decide, fun u1 H1 g1 a1 b1 => ⟨_, _, rfl, rfl, ?_⟩⟩
  dsimp only
  generalize hN : (9 : Int) + u1 = N
  refine ⟨_, rfl, _, rfl, d, N, rfl, g1.dr, by omega, fun a H2 g2 a2 b2 => ?_⟩
  refine ⟨_, rfl, _, rfl, d, N, rfl, g2.dr, by omega, fun b H3 g3 a3 b3 => ?_⟩
  refine ⟨_, rfl, Nat.le_of_ble_eq_true rfl, fun l hl => ?_⟩
  have g3l := g3.trans (Go.new (o := .lst [.int 9, .int 60]) g3.dr hl)
  refine ⟨_, rfl, d, 2, rfl, g3l.dr, by decide, fun u2 H4 g4 a4 b4 => ?_⟩
  have el : H4 l = some (.lst ([9, 60].map V.int)) := g4.fr l _ (new_ne g3.dr hl) upd_same
  obtain ⟨m, hm, hmm⟩ := atI_map (f := V.int) (xs := ([9, 60] : List Int)) a4 b4
  have hm9 : m = 9 ∨ m = 60 := by simpa using hmm
  refine ⟨l, _, _, _, rfl, rfl, sqd el, hm, ?_⟩
  refine ⟨d, m, rfl, g4.dr, by omega, fun u3 H5 g5 a5 b5 => ⟨_, _, rfl, rfl, ?_⟩⟩
  dsimp only
  generalize hc : (3 : Int) + u3 = c
  refine ⟨_, rfl, d, 4, rfl, g5.dr, by decide, fun bad H6 g6 a6 b6 => ?_⟩
  have g16 := ((((g1.trans g2).trans g3l).trans g4).trans g5).trans g6
  refine ⟨Nat.zero_le _, fun p hp => ?_⟩
  have hpd := new_ne g6.dr hp
  have hp0 := g16.free hp
  refine ⟨_, rfl, N, rfl, by omega, by omega, for_range (lo := 0) (n := N.toNat) (fun (j : Nat) (σ : L2.St) (H' : Hp) => ∃ (xs : List V) (A' : Ar) (y7 y8 : Option V), σ = [some (.ref d), some (.int N), some (.int a), some (.int b), some (.int c), some (.int bad), some (.ref p), y7, y8] ∧ Go d H H' ∧ H' p = some (.lst xs) ∧ Each (PosIn H') A' xs ∧ A'.length = j ∧ ∀ os ∈ A', PosH N os) ?_ ?_ ?_⟩
  · exact ⟨[], [], none, none, rfl, g16.trans (Go.new g6.dr hp), upd_same, .nil, rfl, fun os h => nomatch h⟩
  · rintro j σ H7 hj ⟨xs, A', y7, y8, rfl, g7, e7, hxs, hA, hG⟩
    have hkN : (0 : Int) + (j : Int) < N := by omega
    have hN0 : 0 < N := by omega
    have md : ∀ z : Int, 0 ≤ z % N ∧ z % N < N := fun z => ⟨Int.emod_nonneg z (by omega), Int.emod_lt_of_pos z hN0⟩
    generalize hk : (0 : Int) + (j : Int) = k at hkN ⊢
    have hk0 : 0 ≤ k := by omega
    -- the two options
    refine ⟨_, rfl, _, _, rfl, rfl, .inl ⟨_, rfl, _, rfl, _, _, rfl, rfl, hN0, Nat.le_of_ble_eq_true rfl, fun t1 ht1 => ?_⟩⟩
    have s1 := same_new ht1 (.tup [V.int ((k + 1) % N)])
    have e1 : upd H7 t1 (.tup [V.int ((k + 1) % N)]) t1 = some (.tup [V.int ((k + 1) % N)]) := upd_same
    generalize upd H7 t1 (.tup [V.int ((k + 1) % N)]) = H8 at s1 e1 ⊢
    refine ⟨_, rfl, _, rfl, _, _, rfl, rfl, .inl ⟨by omega, by omega⟩, _, rfl, _, _, rfl, rfl, .inl ⟨_, rfl, _, rfl, _, _, rfl, rfl, hN0, ?_⟩⟩
    refine ⟨_, rfl, _, rfl, _, _, rfl, rfl, .inl ⟨by omega, by omega⟩, _, rfl, _, _, rfl, rfl, .inl ⟨_, rfl, _, rfl, _, _, rfl, rfl, hN0, ?_⟩⟩
    dsimp only
    generalize hx1 : (a * k + b) % N = x1
    generalize hx2 : (k * k + a) % N = x2
    have hb1 := md (a * k + b)
    have hb2 := md (k * k + a)
    rw [hx1] at hb1
    rw [hx2] at hb2
    refine ⟨Nat.le_of_ble_eq_true rfl, fun l1 hl1 => ⟨l1, [x1, x2], rfl, sqd upd_same, (by show 2 < 64; decide), fun s0 c1 hs0 hc1 => ?_⟩⟩
    have s2 := (same_new hl1 (.lst [V.int x1, V.int x2])).trans (same_new hs0 (SetO w s0 (fun j => decide (j ∈ [x1, x2])) c1))
    refine ⟨s0, _, c1, rfl, upd_same, Nat.lt_of_le_of_lt hc1 (by show 2 < 64; decide), fun ns q1 hasc hmem hlen hq1 => ?_⟩
    refine ⟨q1, _, rfl, .inl ⟨sqd upd_same, fun t2 ht2 => ?_⟩⟩
    obtain ⟨Ha, ea, sa, _⟩ := newH hq1 (.lst (ns.map V.int))
    rw [ea] at ht2 ⊢
    obtain ⟨Hb, eb, sb, et2⟩ := newH ht2 (.tup (ns.map V.int))
    rw [eb]
    refine ⟨Nat.le_of_ble_eq_true rfl, fun ol hol => ?_⟩
    obtain ⟨H9, e9, s9, e3⟩ := newH hol (.lst [V.ref t1, V.ref t2])
    rw [e9]
    have s4 := ((s2.trans sa).trans sb).trans s9
    have e2 := s9 _ _ et2
    have s79 := s1.trans s4
    have o1 : OptG N [(k + 1) % N] := .one (by have := md (k + 1); omega) (md (k + 1)).2
    have o2 : OptG N ns := by
      have hmm : ∀ s ∈ ns, s = x1 ∨ s = x2 := fun s hs => by
        have := (hmem s).mp hs
        simpa using this
      refine ⟨fun e => ?_, by rw [hlen]; exact Nat.le_trans hc1 (by show 2 ≤ 60; decide), fun s hs => ?_, hasc⟩
      · have := (hmem x1).mpr (by simp)
        rw [e] at this
        cases this
      · rcases hmm s hs with rfl | rfl <;> omega
    have o2l : ns.length ≤ 2 := by rw [hlen]; exact hc1
    have r1 : OptIn H9 [(k + 1) % N] (.ref t1) := ⟨t1, rfl, s4 _ _ e1⟩
    have r2 : OptIn H9 ns (.ref t2) := ⟨t2, rfl, e2⟩
    let I : L2.St → Hp → Prop := fun σ H' => ∃ (os : Pos') (ol : Addr) (zs : List V), σ = [some (.ref d), some (.int N), some (.int a), some (.int b), some (.int c), some (.int bad), some (.ref p), some (.int k), some (.ref ol)] ∧ Same H7 H' ∧ H' ol = some (.lst zs) ∧ Each (OptIn H') os zs ∧ PosH N os
    -- the first one left out
    refine ⟨I, ?_, ?_⟩
    · refine ⟨_, rfl, _, rfl, _, _, rfl, rfl, .inl ⟨_, rfl, _, rfl, _, _, rfl, rfl, by omega, rfl, _, rfl, ?_⟩⟩
      refine ite2 (fun z => ?_) (fun z => ?_)
      · refine ⟨_, rfl, 1, rfl, ol, _, rfl, sqd e3, fun om hom => ?_⟩
        rw [cut_tl]
        have s5 := same_new hom (.lst [V.ref t2])
        exact ⟨[ns], om, _, rfl, s79.trans s5, upd_same, .cons (r2.tp (.same s5)) .nil, Nat.le_of_ble_eq_true rfl, fun o ho => by rw [List.mem_singleton.mp ho]; exact ⟨o2, o2l⟩⟩
      · exact ⟨[_, ns], ol, _, rfl, s79, e3, .cons r1 (.cons r2 .nil), Nat.le_of_ble_eq_true rfl, fun o ho => by
          rcases List.mem_cons.mp ho with rfl | ho
          · exact ⟨o1, by simp⟩
          · rw [List.mem_singleton.mp ho]; exact ⟨o2, o2l⟩⟩
    rintro σ H10 ⟨os, ol2, zs, rfl, s10, e10, hzs, hos⟩
    -- bad ones
    refine ⟨I, ?_, ?_⟩
    · refine ⟨_, rfl, _, rfl, _, _, rfl, rfl, .inl ⟨_, rfl, _, rfl, _, _, rfl, rfl, _, _, rfl, rfl, by omega, rfl, _, rfl, ?_⟩⟩
      have keep : I [some (.ref d), some (.int N), some (.int a), some (.int b), some (.int c), some (.int bad), some (.ref p), some (.int k), some (.ref ol2)] H10 := ⟨os, ol2, zs, rfl, s10, e10, hzs, hos⟩
      refine ite2 (fun z => ?_) (fun z => ?_)
      · refine ⟨_, rfl, _, _, rfl, rfl, _, rfl, ?_⟩
        refine ite2 (fun z => ?_) (fun z => keep)
        have hbad : 0 < bad := of_decide_eq_true z
        refine ⟨_, rfl, _, rfl, Nat.le_of_ble_eq_true rfl, fun ta hta => ?_⟩
        obtain ⟨Ha, ea, sa, ka⟩ := newH hta (.tup [V.int (-1), V.int k])
        rw [show upd H10 ta (.tup [V.int (-1), V.int k]) = Ha from ea]
        refine ⟨Nat.le_of_ble_eq_true rfl, fun la hla => ?_⟩
        obtain ⟨Hb, eb, sb, kb⟩ := newH hla (.lst [V.ref ta])
        rw [eb]
        refine ⟨Nat.zero_le _, fun lb hlb => ?_⟩
        obtain ⟨Hc, ec, sc, kc⟩ := newH hlb (.lst [])
        rw [ec]
        refine ⟨_, rfl, Nat.le_of_ble_eq_true rfl, fun tb htb => ?_⟩
        obtain ⟨Hd, ed, sd, kd⟩ := newH htb (.tup [V.int (-1)])
        rw [show upd Hc tb (.tup [V.int (-1)]) = Hd from ed]
        refine ⟨_, rfl, _, _, rfl, rfl, .inl ⟨_, rfl, _, rfl, _, _, rfl, rfl, hN0, Nat.le_of_ble_eq_true rfl, fun tc htc => ?_⟩⟩
        obtain ⟨He, ee, se, ke⟩ := newH htc (.tup [V.int ((k + 2) % N)])
        rw [show upd Hd tc (.tup [V.int ((k + 2) % N)]) = He from ee]
        refine ⟨Nat.le_of_ble_eq_true rfl, fun lc hlc => ?_⟩
        obtain ⟨Hf, ef, sf, kf⟩ := newH hlc (.lst [V.ref tb, V.ref tc])
        rw [ef]
        refine ⟨Nat.le_of_ble_eq_true rfl, fun lo hlo => ?_⟩
        obtain ⟨Hg, eg, sg, kg⟩ := newH hlo (.lst [V.ref la, V.ref lb, V.ref lc])
        rw [eg]
        have sag := ((((((sa.trans sb).trans sc).trans sd).trans se).trans sf).trans sg)
        have m2 := md (k + 2)
        refine ⟨_, rfl, _, _, rfl, rfl, ?_⟩
        have hcase : bad = 1 ∨ bad = 2 ∨ bad = 3 := by omega
        rcases hcase with rfl | rfl | rfl
        · refine ⟨lo, _, _, _, rfl, rfl, sqd kg, atI0, ?_⟩
          refine ⟨[[-1, k]], la, _, rfl, s10.trans sag, (((((sc.trans sd).trans se).trans sf).trans sg)) _ _ kb, .cons ⟨ta, rfl, ((((((sb.trans sc).trans sd).trans se).trans sf).trans sg)) _ _ ka⟩ .nil, Nat.le_of_ble_eq_true rfl, fun o ho => ?_⟩
          rw [List.mem_singleton.mp ho]
          refine ⟨⟨by simp, by simp, fun s hs => ?_, ?_⟩, by simp⟩
          · simp only [List.mem_cons, List.not_mem_nil, or_false] at hs
            rcases hs with rfl | rfl <;> omega
          · refine List.pairwise_cons.mpr ⟨fun x hx => ?_, List.pairwise_singleton _ _⟩
            rw [List.mem_singleton.mp hx]
            omega
        · refine ⟨lo, _, _, _, rfl, rfl, sqd kg, atI1, ?_⟩
          exact ⟨[], lb, _, rfl, s10.trans sag, ((((sd.trans se).trans sf).trans sg)) _ _ kc, .nil, Nat.zero_le _, fun o ho => nomatch ho⟩
        · refine ⟨lo, _, _, _, rfl, rfl, sqd kg, (atI_nat (j := 2) rfl), ?_⟩
          refine ⟨[[-1], [(k + 2) % N]], lc, _, rfl, s10.trans sag, sg _ _ kf, .cons ⟨tb, rfl, ((se.trans sf).trans sg) _ _ kd⟩ (.cons ⟨tc, rfl, (sf.trans sg) _ _ ke⟩ .nil), Nat.le_of_ble_eq_true rfl, fun o ho => ?_⟩
          rcases List.mem_cons.mp ho with rfl | ho
          · exact ⟨.one (by omega) (by omega), by simp⟩
          · rw [List.mem_singleton.mp ho]
            exact ⟨.one (by omega) (by omega), by simp⟩
      · exact iteF keep
    rintro σ H11 ⟨os, ol3, zs, rfl, s11, e11, hzs, hos⟩
    have e11p := s11 _ _ e7
    have hxl := hxs.1
    refine ⟨_, rfl, .inl ⟨rfl, _, sqd e11p⟩, _, rfl, ol3, zs, rfl, .inl ⟨sqd e11, fun t ht => ?_⟩⟩
    have st := same_new ht (.tup zs)
    have ept := st _ _ e11p
    refine ⟨p, xs, _, rfl, rfl, ept, big' (by omega), ?_⟩
    refine ⟨xs ++ [.ref t], A' ++ [os], some (.int k), some (.ref ol3), rfl, ((g7.trans (.same g7.dr s11)).trans (.same (g7.trans (.same g7.dr s11)).dr st)).put2 hp0 hpd, upd_same, ?_, ?_, ?_⟩
    · have tp : Tp H7 (upd (upd H11 t (.tup zs)) p (.lst (xs ++ [.ref t]))) := tp_put ((Tp.same s11).trans (Tp.same st)) ept
      refine (hxs.mono fun o x => PosIn.tp tp).snoc ⟨t, zs, rfl, ?_, ?_⟩
      · rw [upd_ne (fun e => by rw [e, e11p] at ht; cases ht)]
        exact upd_same
      · exact hzs.mono fun o x => OptIn.tp (tp_put (Tp.same st) ept)
    · rw [List.length_append, hA]
      rfl
    · intro o ho
      rcases List.mem_append.mp ho with ho | ho
      · exact hG o ho
      · rw [List.mem_singleton.mp ho]
        exact hos
  · rintro σ H7 ⟨xs, A', y7, y8, rfl, g7, e7, hxs, hA, hG⟩
    refine ⟨_, rfl, p, xs, rfl, .inl ⟨sqd e7, fun t ht => ?_⟩⟩
    have st := same_new ht (.tup xs)
    refine q _ A' _ (g7.trans (.same g7.dr st)) ⟨t, xs, rfl, upd_same, hxs.mono fun os x => PosIn.tp (.same st)⟩ ⟨by omega, fun os h => ?_⟩ (by omega) (by omega) fun os h o ho => ((hG os h).2 o ho).2
    rw [show (A'.length : Int) = N by omega]
    exact ⟨(hG os h).1, fun o ho => ((hG os h).2 o ho).1⟩
end
end NL

namespace NL
open PySem PySem.Spec PyProof.Rows L2
theorem cut_pre {xs : List V} {k : Nat} : cutV xs none (some (k : Int)) = xs.take k := by
  unfold cutV
  rw [HT.sIx_none, show HT.sIx xs.length xs.length (some (k : Int)) = min k xs.length from HT.sIx_nat _ _ _, List.drop_zero, Nat.sub_zero]
  by_cases h : k ≤ xs.length
  · rw [Nat.min_eq_left h]
  · rw [Nat.min_eq_right (by omega), List.take_length, List.take_of_length_le (by omega)]
theorem slA_of {K : PySem.W.Frag} {a : Addr} {xs : List V} {lo hi : Option Int} {H : Hp} {Q : VK} (ha : H a = some (.tup xs)) (q : ∀ p H', Same H H' → H' p = some (.tup (cutV xs lo hi)) → Q (.ref p) H') : rSlA K (.ref a) lo hi H Q := by
  refine ⟨a, xs, rfl, sqt ha, fun h => ?_, fun _ p hp => q p _ (same_new hp _) upd_same⟩
  refine q a H (Same.refl H) ?_
  have : cutV xs lo hi = xs := by
    unfold cutV
    rw [h.1, h.2, List.drop_zero, Nat.sub_zero]
    exact List.take_length
  rw [this]
  exact ha
theorem catA_of {K : PySem.W.Frag} {a b : Addr} {xs ys : List V} {H : Hp} {Q : VK} (ha : H a = some (.tup xs)) (hb : H b = some (.tup ys)) (hl : xs.length + ys.length ≤ 1000) (q : ∀ p H', Same H H' → H' p = some (.tup (xs ++ ys)) → Q (.ref p) H') : rCatA K (.ref a) (.ref b) H Q := by
  refine ⟨a, b, xs, ys, rfl, rfl, sqt ha, sqt hb, big (by omega), fun h => ?_, fun _ h => ?_, fun _ _ p hp => ?_⟩
  · exact q b H (Same.refl H) (by rw [h, List.nil_append]; exact hb)
  · exact q a H (Same.refl H) (by rw [h, List.append_nil]; exact ha)
  · exact q p _ (same_new hp _) upd_same
theorem rg_ints (a b : Int) : rgV a b = ((List.range (b - a).toNat).map fun i : Nat => a + (i : Int)).map V.int := by
  unfold rgV
  rw [List.map_map]
  rfl
theorem rg_good {u n : Int} (h0 : 0 ≤ u) (h1 : u < 2) (hn : 0 < n) (hm : n ≤ 46) : OptG n ((List.range (n - (0 - u)).toNat).map fun i : Nat => (0 - u) + (i : Int)) := by
  refine ⟨fun e => ?_, ?_, fun s hs => ?_, ?_⟩
  · have h := congrArg List.length e
    rw [List.length_map, List.length_range, List.length_nil] at h
    omega
  · rw [List.length_map, List.length_range]
    omega
  · obtain ⟨i, hi, rfl⟩ := List.mem_map.mp hs
    have := List.mem_range.mp hi
    omega
  · rw [List.pairwise_map]
    exact List.pairwise_lt_range.imp fun {a b} h => by omega
section
variable {P : Program} {w : World} {K : PySem.W.Frag} {mg : Str → Option Value} {base : Heap}
/-! ### _law_arena -/
def spArena : Sp := fun vs H Q _ => ∃ (d : Addr) (most : Int), vs = [.ref d, .int most] ∧ Dr H d ∧ 0 ≤ most ∧ most ≤ 45 ∧ ∀ v A H', Go d H H' → ArIn H' A v → ArG A → A.length ≤ 46 → ((A.length : Int) ≤ most ∨ (9 ≤ A.length ∧ ∀ os ∈ A, ∀ o ∈ os, o.length ≤ 2)) → Q v H'
theorem ok_law_arena (T : Txt K mg) : FnOk P w K mg base CX0 3 T.a_law_arena T.d_law_arena P_law_arena spArena := by
  have G_law_take := ok_law_take (P := P) (w := w) (base := base) T
  have G_law_great := ok_law_great (P := P) (w := w) (base := base) T
  refine T.F_law_arena.ok sc_law_arena (fun vs H Q E h => ?_) (fun cdv A outer s H vs Q E hr h => ?_)
  · obtain ⟨d, most, rfl, _⟩ := h
    rfl
  obtain ⟨d, most, rfl, hD, m0, m1, q⟩ := h
  refine ⟨_, (pss_cons (ps_set (i := 2) sc_law_arena.nd rfl (Or.inl rfl) (pe_call G_law_take (hr.mono (by omega)) (by rfl) T.m_law_take T.F_law_take.kp T.b_law_take .nil pass0 (pa_cons (pv 0) (pa_cons pe_int pa_nil))))
    (pss_cons (ps_if (pt_cmpR op_eq (pv 2) pe_int (nomark _))
    (pss_one (ps_ret (pe_call G_law_great (hr.mono (by omega)) (by rfl) T.m_law_great T.F_law_great.kp T.b_law_great .nil pass0 (pa_cons (pv 0) pa_nil))))
    pss_nil)
    (pss_cons (ps_set (i := 3) sc_law_arena.nd rfl (Or.inl rfl) (pe_ix ix_list (pe_lst (pa_cons pe_int (pa_cons pe_int (pa_cons pe_int pa_nil)))) (pe_call G_law_take (hr.mono (by omega)) (by rfl) T.m_law_take T.F_law_take.kp T.b_law_take .nil pass0 (pa_cons (pv 0) (pa_cons pe_int pa_nil))) (fun _ _ => rfl)))
    (pss_cons (ps_set (i := 4) sc_law_arena.nd rfl (Or.inl rfl) (pe_ix ix_list (pe_lst (pa_cons (pe_lst (pa_cons pe_int (pa_cons pe_int (pa_cons pe_int (pa_cons pe_int (pa_cons pe_int (pa_cons pe_int pa_nil))))))) (pa_cons (pe_lst (pa_cons pe_int (pa_cons pe_int (pa_cons pe_int (pa_cons pe_int (pa_cons pe_int (pa_cons pe_int pa_nil))))))) pa_nil))) (pe_call G_law_take (hr.mono (by omega)) (by rfl) T.m_law_take T.F_law_take.kp T.b_law_take .nil pass0 (pa_cons (pv 0) (pa_cons pe_int pa_nil))) (fun _ _ => rfl)))
    (pss_cons (ps_set (i := 5) sc_law_arena.nd rfl (Or.inr rfl) (pe_call G_law_take (hr.mono (by omega)) (by rfl) T.m_law_take T.F_law_take.kp T.b_law_take .nil pass0 (pa_cons (pv 0) (pa_cons (pe_op op_add (pv 1) pe_int) pa_nil))))
    (pss_cons (ps_set (i := 6) sc_law_arena.nd rfl (Or.inl rfl) (pe_lst pa_nil))
    (pss_cons (ps_for  PassesOwn.never rfl (pi_range1 (by rfl) T.z_range (pa_cons (pv 5) pa_nil)) (pg_name (i := 7) sc_law_arena.nd rfl (Or.inl rfl))
    (pss_cons (ps_set (i := 8) sc_law_arena.nd rfl (Or.inl rfl) (pe_lst pa_nil))
    (pss_cons (ps_for  PassesOwn.never rfl (pi_range1 (by rfl) T.z_range (pa_cons (pe_ix ix_list (pv 4) (pe_call G_law_take (hr.mono (by omega)) (by rfl) T.m_law_take T.F_law_take.kp T.b_law_take .nil pass0 (pa_cons (pv 0) (pa_cons pe_int pa_nil))) (fun _ _ => rfl)) pa_nil)) (pg_name (i := 9) sc_law_arena.nd rfl (Or.inl rfl))
    (pss_cons (ps_set (i := 10) sc_law_arena.nd rfl (Or.inl rfl) (pe_lst pa_nil))
    (pss_cons (ps_for  PassesOwn.never rfl (pi_range1 (by rfl) T.z_range (pa_cons (pe_op op_add pe_int (pe_ix ix_list (pe_lst (pa_cons pe_int (pa_cons pe_int (pa_cons pe_int (pa_cons pe_int (pa_cons pe_int (pa_cons pe_int pa_nil))))))) (pe_call G_law_take (hr.mono (by omega)) (by rfl) T.m_law_take T.F_law_take.kp T.b_law_take .nil pass0 (pa_cons (pv 0) (pa_cons pe_int pa_nil))) (fun _ _ => rfl))) pa_nil)) (pg_name (i := 11) sc_law_arena.nd rfl (Or.inl rfl))
    (pss_cons (ps_set (i := 12) sc_law_arena.nd rfl (Or.inl rfl) (pe_call G_law_take (hr.mono (by omega)) (by rfl) T.m_law_take T.F_law_take.kp T.b_law_take .nil pass0 (pa_cons (pv 0) (pa_cons (pe_op op_mul (pv 5) (pv 3)) pa_nil))))
    (pss_cons (ps_set (i := 13) sc_law_arena.nd rfl (Or.inl rfl) (pe_op op_fdiv (pv 12) (pv 3)))
    (C8.pss_cut (ps_if (pt_cmpR op_eq (pe_op op_mod (pe_callTy call_int1 (by rfl) T.z_int (by decide +kernel) (pa_cons (pv 12) pa_nil)) (pv 3)) pe_int (nomark _))
    (pss_one (ps_set (i := 13) sc_law_arena.nd rfl (Or.inl rfl) (pe_un un_neg pe_int)))
    pss_nil)
    (pss_one (ps_if (pt_cmpR op_notIn_seq (pv 13) (pv 10) (by rfl))
    (pss_one (ps_expr (pe_bm PySem.F.plainAttrs_list PySem.F.slot_list_append PySem.F.type_list_append mt_append (pv 10) (pa_cons (pv 13) pa_nil))))
    pss_nil))))))
    (pss_one (ps_expr (pe_bm PySem.F.plainAttrs_list PySem.F.slot_list_append PySem.F.type_list_append mt_append (pv 8) (pa_cons (pe_callTy call_tuple_of (by rfl) T.z_tuple (by decide +kernel) (pa_cons (pe_callB (cr_sorted) (by rfl) T.z_sorted (by decide +kernel) (pa_cons (pv 10) pa_nil)) pa_nil)) pa_nil)))))))
    (pss_one (ps_expr (pe_bm PySem.F.plainAttrs_list PySem.F.slot_list_append PySem.F.type_list_append mt_append (pv 6) (pa_cons (pe_callTy call_tuple_of (by rfl) T.z_tuple (by decide +kernel) (pa_cons (pv 8) pa_nil)) pa_nil)))))))
    (C8.pss_cut (ps_if (PW.pt (pw_and (pt_cmpR op_gt (pv 5) pe_int (nomark _)) (pw_and1 (pt_cmpR op_eq (pe_call G_law_take (hr.mono (by omega)) (by rfl) T.m_law_take T.F_law_take.kp T.b_law_take .nil pass0 (pa_cons (pv 0) (pa_cons pe_int pa_nil))) pe_int (nomark _)))))
    (pss_cons (ps_set (i := 14) sc_law_arena.nd rfl (Or.inr rfl) (pe_call G_law_take (hr.mono (by omega)) (by rfl) T.m_law_take T.F_law_take.kp T.b_law_take .nil pass0 (pa_cons (pv 0) (pa_cons (pv 5) pa_nil))))
    (pss_cons (ps_set (i := 15) sc_law_arena.nd rfl (Or.inl rfl) (pe_op op_cat (pe_lst (pa_cons (pe_tupRg rfl (by rfl) T.z_tuple (prg_2 (by rfl) T.z_range (pe_op op_sub pe_int (pe_call G_law_take (hr.mono (by omega)) (by rfl) T.m_law_take T.F_law_take.kp T.b_law_take .nil pass0 (pa_cons (pv 0) (pa_cons pe_int pa_nil)))) (pv 5))) pa_nil)) (pe_lc (own := [("j", 9)]) (g := (gName 9)) (tt := tYes) rfl sc_law_arena.nd (pi_range1 (by rfl) T.z_range (pa_cons pe_int pa_nil)) (blkOk_by (N := N_law_arena) (sc := defScope s_law_arena) (by decide +kernel)) (fun _ _ _ _ _ => (pg_name (i := 9) sc_law_arena.nd rfl (Or.inl rfl))) (fun _ _ _ _ _ => pts_nil) (fun _ _ _ _ _ => (pe_tup (pa_cons (pe_op op_mod (pe_callTy call_int1 (by rfl) T.z_int (by decide +kernel) (pa_cons (pe_op op_add (pe_op op_mul (pv 9) (pv 14)) (pv 9)) pa_nil)) (pv 5)) pa_nil))))))
    (pss_one (ps_asg (pe_slice sl_tupA (pe_op op_catA (pe_ix ix_list (pv 6) (pv 14) (fun _ _ => rfl)) (pe_callTy call_tuple_of (by rfl) T.z_tuple (by decide +kernel) (pa_cons (pv 15) pa_nil))) po_none (po_some pe_int)) (pg_sub (pv 6) (pv 14) set_list)))))
    pss_nil)
    (pss_one (ps_ret (pe_callTy call_tuple_of (by rfl) T.z_tuple (by decide +kernel) (pa_cons (pv 6) pa_nil)))))))))))), ?_⟩
  refine ⟨_, rfl, d, 12, rfl, hD, by decide, fun sh H1 g1 _ _ => ?_⟩
  refine ⟨_, rfl, rfl, _, rfl, ?_⟩
  refine ite2 (fun z => ?_) (fun z => ?_)
  · exact ⟨_, rfl, d, rfl, g1.dr, fun v A H' g hA hG hl h9 h2 => q v A H' (g1.trans g) hA hG hl (.inr ⟨h9, h2⟩)⟩
  -- how rare it is to be out
  refine ⟨Nat.le_of_ble_eq_true rfl, fun l hl => ?_⟩
  have g1l := g1.trans (Go.new (o := .lst [.int 4, .int 14, .int 60]) g1.dr hl)
  refine ⟨_, rfl, d, 3, rfl, g1l.dr, by decide, fun u2 H2 g2 a2 b2 => ?_⟩
  have el : H2 l = some (.lst ([4, 14, 60].map V.int)) := g2.fr l _ (new_ne g1.dr hl) upd_same
  obtain ⟨rare, hra, hrm⟩ := atI_map (f := V.int) (xs := ([4, 14, 60] : List Int)) a2 b2
  have hr3 : 0 < rare ∧ rare ≤ 60 := by
    simp only [List.mem_cons, List.not_mem_nil, or_false] at hrm
    omega
  refine ⟨l, _, _, _, rfl, rfl, sqd el, hra, ?_⟩
  have g12 := g1l.trans g2
  -- how many options
  refine ⟨Nat.le_of_ble_eq_true rfl, fun l1 hl1 => ?_⟩
  obtain ⟨Ha, ea, sa, ka⟩ := newH hl1 (.lst [.int 0, .int 1, .int 1, .int 2, .int 2, .int 3])
  rw [ea]
  refine ⟨Nat.le_of_ble_eq_true rfl, fun l2 hl2 => ?_⟩
  obtain ⟨Hb, eb, sb, kb⟩ := newH hl2 (.lst [.int 1, .int 1, .int 2, .int 2, .int 3, .int 4])
  rw [eb]
  refine ⟨Nat.le_of_ble_eq_true rfl, fun l3 hl3 => ?_⟩
  obtain ⟨Hc, ec, sc, kc⟩ := newH hl3 (.lst [.ref l1, .ref l2])
  rw [ec]
  have gc := g12.trans (.same g12.dr ((sa.trans sb).trans sc))
  refine ⟨_, rfl, d, 2, rfl, gc.dr, by decide, fun u3 H3 g3 a3 b3 => ?_⟩
  have g13 := gc.trans g3
  have nl1 : l1 ≠ d := new_ne g12.dr hl1
  have nl2 : l2 ≠ d := new_ne (g12.trans (.same g12.dr sa)).dr hl2
  have nl3 : l3 ≠ d := new_ne (g12.trans (.same g12.dr (sa.trans sb))).dr hl3
  obtain ⟨ml, M, nml, hmat, eml, hM6, hMb⟩ : ∃ (ml : Addr) (M : List Int), ml ≠ d ∧ atI [V.ref l1, V.ref l2] u3 = some (.ref ml) ∧ H3 ml = some (.lst (M.map V.int)) ∧ M.length = 6 ∧ ∀ x ∈ M, 0 ≤ x ∧ x ≤ 4 := by
    have hc : u3 = 0 ∨ u3 = 1 := by omega
    rcases hc with rfl | rfl
    · exact ⟨l1, [0, 1, 1, 2, 2, 3], nl1, atI0, g3.fr l1 _ nl1 ((sb.trans sc) _ _ ka), rfl, by decide⟩
    · exact ⟨l2, [1, 1, 2, 2, 3, 4], nl2, atI1, g3.fr l2 _ nl2 (sc _ _ kb), rfl, by decide⟩
  refine ⟨l3, _, _, _, rfl, rfl, sqd (g3.fr l3 _ nl3 kc), hmat, ?_⟩
  refine ⟨_, rfl, _, rfl, _, _, rfl, rfl, d, _, rfl, g3.dr, by omega, fun n H4 g4 n0 n1 => ?_⟩
  have g14 := g13.trans g4
  have eml4 := g4.fr ml _ nml eml
  have n46 : n ≤ 46 := by
    have : n < most + 1 := n1
    omega
  refine ⟨Nat.zero_le _, fun p hp => ?_⟩
  have hpd := new_ne g4.dr hp
  have hp0 := g14.free hp
  obtain ⟨H5, e5, s5, k5⟩ := newH hp (.lst [])
  rw [e5]
  have g15 := g14.trans (.same g4.dr s5)
  have eml5 := s5 _ _ eml4
  have npm : p ≠ ml := fun e => by
    rw [e, eml4] at hp
    cases hp
  refine ⟨_, rfl, n, rfl, by omega, by omega, for_range (lo := 0) (n := n.toNat) (fun (j : Nat) (σ : L2.St) (H' : Hp) => ∃ (xs : List V) (A' : Ar) (y7 y8 y9 y10 y11 y12 y13 : Option V), σ = [some (.ref d), some (.int most), some (.int sh), some (.int rare), some (.ref ml), some (.int n), some (.ref p), y7, y8, y9, y10, y11, y12, y13, none, none] ∧ Go d H H' ∧ H' ml = some (.lst (M.map V.int)) ∧ H' p = some (.lst xs) ∧ Each (PosIn H') A' xs ∧ A'.length = j ∧ ∀ os ∈ A', PosG n os) ?_ ?_ ?_⟩
  · exact ⟨[], [], none, none, none, none, none, none, none, rfl, g15, eml5, k5, .nil, rfl, fun os h => nomatch h⟩
  · rintro j σ H7 hj ⟨xs, A', y7, y8, y9, y10, y11, y12, y13, rfl, g7, em7, e7, hxs, hA, hG⟩
    have hn0 : 0 < n := by omega
    generalize hk : (0 : Int) + (j : Int) = k
    refine ⟨Nat.zero_le _, fun ol hol => ?_⟩
    have nol := new_ne g7.dr hol
    obtain ⟨H8, e8, s8, k8⟩ := newH hol (.lst [])
    rw [e8]
    have g78 := Go.same g7.dr s8
    refine ⟨_, rfl, _, rfl, d, 6, rfl, g78.dr, by decide, fun u4 H9 g9 a4 b4 => ?_⟩
    have em9 := g9.fr ml _ nml (s8 _ _ em7)
    obtain ⟨mm, hmm, hmmem⟩ := atI_map (f := V.int) (xs := M) a4 (by rw [hM6]; exact b4)
    have hmb := hMb mm hmmem
    refine ⟨ml, _, _, _, rfl, rfl, sqd em9, hmm, mm, rfl, by omega, by omega, ?_⟩
    have g79 := g78.trans g9
    have e9p := g9.fr p _ hpd (s8 _ _ e7)
    have e9o := g9.fr ol _ nol k8
    have hol7 : H7 ol = none := hol
    refine for_range (lo := 0) (n := mm.toNat) (fun (i : Nat) (σ : L2.St) (H' : Hp) => ∃ (zs : List V) (os : Pos') (y9 y10 y11 y12 y13 : Option V), σ = [some (.ref d), some (.int most), some (.int sh), some (.int rare), some (.ref ml), some (.int n), some (.ref p), some (.int k), some (.ref ol), y9, y10, y11, y12, y13, none, none] ∧ Go d H7 H' ∧ H' ol = some (.lst zs) ∧ Each (OptIn H') os zs ∧ os.length = i ∧ ∀ o ∈ os, OptG n o) ?_ ?_ ?_
    · exact ⟨[], [], y9, y10, y11, y12, y13, rfl, g79, e9o, .nil, rfl, fun o h => nomatch h⟩
    · rintro i σ H10 hi ⟨zs, os, y9, y10, y11, y12, y13, rfl, g10, e10, hzs, hos, hG2⟩
      generalize hk2 : (0 : Int) + (i : Int) = k2
      refine ⟨Nat.zero_le _, fun fl hfl => ?_⟩
      have nfl := new_ne g10.dr hfl
      obtain ⟨H11, e11, s11, k11⟩ := newH hfl (.lst [])
      rw [e11]
      have ga := Go.same g10.dr s11
      refine ⟨Nat.le_of_ble_eq_true rfl, fun l5 hl5 => ?_⟩
      obtain ⟨H12, e12, s12, k12⟩ := newH hl5 (.lst [.int 0, .int 0, .int 1, .int 1, .int 2, .int 3])
      rw [e12]
      have gb := ga.trans (.same ga.dr s12)
      refine ⟨_, rfl, d, 6, rfl, gb.dr, by decide, fun u5 H13 g13' a5 b5 => ?_⟩
      have n5 := new_ne ga.dr hl5
      obtain ⟨mf, hmf, hmfm⟩ := atI_map (f := V.int) (xs := ([0, 0, 1, 1, 2, 3] : List Int)) a5 b5
      have hmf3 : 0 ≤ mf ∧ mf ≤ 3 := by
        simp only [List.mem_cons, List.not_mem_nil, or_false] at hmfm
        omega
      refine ⟨l5, _, _, _, rfl, rfl, sqd (g13'.fr l5 _ n5 k12), hmf, _, _, rfl, rfl, 1 + mf, rfl, by omega, by omega, ?_⟩
      have gc2 := gb.trans g13'
      have ef13 := g13'.fr fl _ nfl (s12 _ _ k11)
      refine for_range (lo := 0) (n := (1 + mf).toNat) (fun (i : Nat) (σ : L2.St) (H' : Hp) => ∃ (fs : List Int) (y11 y12 y13 : Option V), σ = [some (.ref d), some (.int most), some (.int sh), some (.int rare), some (.ref ml), some (.int n), some (.ref p), some (.int k), some (.ref ol), some (.int k2), some (.ref fl), y11, y12, y13, none, none] ∧ Go d H10 H' ∧ H' fl = some (.lst (fs.map V.int)) ∧ fs.Nodup ∧ fs.length ≤ i ∧ (∀ s ∈ fs, -1 ≤ s ∧ s < n) ∧ (0 < i → fs ≠ [])) ?_ ?_ ?_
      · exact ⟨[], y11, y12, y13, rfl, gc2, ef13, List.nodup_nil, Nat.zero_le _, fun s h => (nomatch h), fun h => absurd h (by omega)⟩
      · rintro t σ H14 ht ⟨fs, y11, y12, y13, rfl, g14', e14, hnd, hlen, hmem, hne⟩
        generalize hk3 : (0 : Int) + (t : Int) = k3
        have hpos : 0 < n * rare := Int.mul_pos hn0 hr3.1
        refine ⟨_, rfl, _, rfl, _, rfl, _, _, rfl, rfl, .inl ⟨by omega, by omega⟩, d, n * rare, rfl, g14'.dr, hpos, fun dr H15 g15' d0 d1 => ?_⟩
        refine ⟨_, rfl, _, rfl, _, _, rfl, rfl, ⟨hr3.1, by omega⟩, ?_⟩
        have hq0 : 0 ≤ dr / rare := Int.ediv_nonneg d0 (by omega)
        have hq1 : dr / rare < n := Int.ediv_lt_of_lt_mul hr3.1 d1
        have e15 := g15'.fr fl _ nfl e14
        have g1015 := g14'.trans g15'
        have fin : ∀ sc : Int, -1 ≤ sc → sc < n → ∀ (b : Bool), b = decide (sc ∈ fs) → True := fun _ _ _ _ _ => trivial
        refine ⟨fun σ H' => ∃ sc : Int, σ = [some (.ref d), some (.int most), some (.int sh), some (.int rare), some (.ref ml), some (.int n), some (.ref p), some (.int k), some (.ref ol), some (.int k2), some (.ref fl), some (.int k3), some (.int dr), some (.int sc), none, none] ∧ H' = H15 ∧ -1 ≤ sc ∧ sc < n, ?_, ?_⟩
        · refine ⟨_, rfl, .inl ⟨_, rfl, _, rfl, _, _, rfl, rfl, hr3.1, rfl, _, rfl, ?_⟩⟩
          refine ite2 (fun z => ?_) (fun z => ?_)
          · exact ⟨_, rfl, -1, rfl, rfl, by omega, by omega⟩
          · exact ⟨_, rfl, rfl, by omega, hq1⟩
        rintro σ H16 ⟨sc, rfl, rfl, c0, c1⟩
        refine ⟨_, rfl, _, rfl, fl, _, rfl, .inl (sqd e15), rfl, flat_ints' fs, _, rfl, ?_⟩
        by_cases hin : sc ∈ fs
        · refine ifF (by rw [notIn_int, decide_eq_true hin] <;> rfl) ?_
          exact ⟨fs, _, _, _, rfl, g1015, e15, hnd, by omega, hmem, fun _ e => by rw [e] at hin; cases hin⟩
        · refine ifT (by rw [notIn_int, decide_eq_false hin] <;> rfl) ?_
          refine ⟨_, rfl, .inl ⟨rfl, _, sqd e15⟩, _, rfl, fl, _, _, rfl, rfl, e15, big' (by rw [List.length_map]; omega), ?_⟩
          refine ⟨fs ++ [sc], _, _, _, rfl, g1015.put2 hfl nfl, by rw [upd_same, List.map_append]; rfl, ?_, ?_, ?_, fun _ => by simp⟩
          · exact List.nodup_append.mpr ⟨hnd, by simp, fun a ha b hb e => hin (by rw [← List.mem_singleton.mp hb, ← e]; exact ha)⟩
          · rw [List.length_append]
            exact Nat.add_le_add_right hlen 1
          · intro s hs
            rcases List.mem_append.mp hs with hs | hs
            · exact hmem s hs
            · rw [List.mem_singleton.mp hs]
              exact ⟨c0, c1⟩
      · rintro σ H14 ⟨fs, y11, y12, y13, rfl, g14', e14, hnd, hlen, hmem, hne⟩
        have hfl64 : fs.length ≤ 4 := by omega
        have e14o := g14'.fr ol _ nol e10
        refine ⟨_, rfl, .inl ⟨rfl, _, sqd e14o⟩, _, rfl, fl, fs, rfl, sqd e14, by omega, fun ns q1 hperm hpw hq1 => ?_⟩
        obtain ⟨Hd, ed, sd, kd⟩ := newH hq1 (.lst (ns.map V.int))
        rw [ed]
        refine ⟨q1, _, rfl, .inl ⟨sqd kd, fun t2 ht2 => ?_⟩⟩
        obtain ⟨He, ee, se, ke⟩ := newH ht2 (.tup (ns.map V.int))
        rw [ee]
        have sde := sd.trans se
        have eoe := sde _ _ e14o
        refine ⟨ol, zs, _, rfl, rfl, eoe, big' (by have := hzs.1; omega), ?_⟩
        have ge := g14'.trans (.same g14'.dr sde)
        have tpx : Tp H10 (upd He ol (.lst (zs ++ [.ref t2]))) := tp_put (ge.tp g10.dr) eoe
        have nt2 : t2 ≠ ol := fun e => by
          rw [e, sd _ _ e14o] at ht2
          cases ht2
        refine ⟨zs ++ [.ref t2], os ++ [ns], _, _, _, _, _, rfl, (g10.trans ge).put2 hol7 nol, upd_same, ?_, by rw [List.length_append, hos]; rfl, ?_⟩
        · refine (hzs.mono fun o x => OptIn.tp tpx).snoc ⟨t2, rfl, ?_⟩
          rw [upd_ne nt2]
          exact ke
        · intro o ho
          rcases List.mem_append.mp ho with ho | ho
          · exact hG2 o ho
          · rw [List.mem_singleton.mp ho]
            refine ⟨fun e => ?_, by have := hperm.length_eq; omega, fun s hs => hmem s (hperm.mem_iff.mp hs), asc_of hperm hnd hpw⟩
            rw [e] at hperm
            exact hne (by omega) hperm.symm.eq_nil
    · rintro σ H10 ⟨zs, os, y9, y10, y11, y12, y13, rfl, g10, e10, hzs, hos, hG2⟩
      have e10p := g10.fr p _ hpd e7
      have hxl := hxs.1
      refine ⟨_, rfl, .inl ⟨rfl, _, sqd e10p⟩, _, rfl, ol, zs, rfl, .inl ⟨sqd e10, fun t ht => ?_⟩⟩
      have st := same_new ht (.tup zs)
      have ept := st _ _ e10p
      have gt := (g7.trans g10).trans (.same (g7.trans g10).dr st)
      have ntp : t ≠ p := fun e => by
        rw [e, e10p] at ht
        cases ht
      refine ⟨p, xs, _, rfl, rfl, ept, big' (by omega), ?_⟩
      refine ⟨xs ++ [.ref t], A' ++ [os], some (.int k), some (.ref ol), _, _, _, _, _, rfl, gt.put2 hp0 hpd, ?_, upd_same, ?_, by rw [List.length_append, hA]; rfl, ?_⟩
      · rw [upd_ne npm.symm]
        exact st _ _ (g10.fr ml _ nml em7)
      · have tp : Tp H7 (upd (upd H10 t (.tup zs)) p (.lst (xs ++ [.ref t]))) := tp_put ((g10.tp g7.dr).trans (Tp.same st)) ept
        refine (hxs.mono fun o x => PosIn.tp tp).snoc ⟨t, zs, rfl, ?_, ?_⟩
        · rw [upd_ne ntp]
          exact upd_same
        · exact hzs.mono fun o x => OptIn.tp (tp_put (Tp.same st) ept)
      · intro o ho
        rcases List.mem_append.mp ho with ho | ho
        · exact hG o ho
        · rw [List.mem_singleton.mp ho]
          exact ⟨by omega, hG2⟩
  · rintro σ H7 ⟨xs, A', y7, y8, y9, y10, y11, y12, y13, rfl, g7, em7, e7, hxs, hA, hG⟩
    refine ⟨fun σ H' => ∃ (xs : List V) (A' : Ar) (y7 y8 y9 y10 y11 y12 y13 y14 y15 : Option V), σ = [some (.ref d), some (.int most), some (.int sh), some (.int rare), some (.ref ml), some (.int n), some (.ref p), y7, y8, y9, y10, y11, y12, y13, y14, y15] ∧ Go d H H' ∧ H' p = some (.lst xs) ∧ Each (PosIn H') A' xs ∧ A'.length = n.toNat ∧ ∀ os ∈ A', PosG n os, ?_, ?_⟩
    · refine ⟨_, rfl, _, _, rfl, rfl, _, rfl, ?_⟩
      refine ite2 (fun z => ?_) (fun z => iteF ⟨xs, A', _, _, _, _, _, _, _, _, _, rfl, g7, e7, hxs, hA, hG⟩)
      have hn0 : 0 < n := of_decide_eq_true z
      refine ⟨_, rfl, d, 8, rfl, g7.dr, by decide, fun u4 H9 g9 _ _ => ⟨rfl, _, rfl, ?_⟩⟩
      have e9 := g9.fr p _ hpd e7
      have hxs9 := hxs.mono fun o x => PosIn.tp (g9.tp g7.dr)
      have gg := g7.trans g9
      refine ite2 (fun z => ?_) (fun z => ⟨xs, A', _, _, _, _, _, _, _, _, _, rfl, gg, e9, hxs9, hA, hG⟩)
      refine ⟨_, rfl, _, rfl, d, n, rfl, g9.dr, hn0, fun at_ H10 g10 t0 t1 => ?_⟩
      refine ⟨_, rfl, d, 2, rfl, g10.dr, by decide, fun u H11 g11 u0 u1 => ⟨_, _, rfl, rfl, _, rfl, _, _, rfl, rfl, ⟨by omega, by omega, by omega, by omega, by omega⟩, fun q1 hq1 => ?_⟩⟩
      rw [rg_ints]
      have og1 := rg_good u0 u1 hn0 n46
      generalize (List.range (n - (0 - u)).toNat).map (fun i : Nat => (0 - u) + (i : Int)) = o1 at og1 ⊢
      obtain ⟨Ha, ea, sa, ka⟩ := newH hq1 (.tup (o1.map V.int))
      rw [ea]
      refine ⟨Nat.le_of_ble_eq_true rfl, fun lm hlm => ?_⟩
      obtain ⟨Hb, eb, sb, kb⟩ := newH hlm (.lst [.ref q1])
      rw [eb]
      refine ⟨5, rfl, by decide, by decide, fun D hD => ?_⟩
      refine lc_range (lo := 0) (n := 5) (fun (j : Nat) (H' : Hp) => ∃ (zs : List V) (os : Pos'), Same Hb H' ∧ H' D = some (.lst zs) ∧ Each (OptIn H') os zs ∧ os.length = j ∧ ∀ o ∈ os, OptG n o) ?_ ?_ ?_
      · exact ⟨[], [], same_new hD _, upd_same, .nil, rfl, fun o h => nomatch h⟩
      · rintro j H' hj ⟨zs, os, sj, ej, hzs, hos, hoG⟩
        refine ⟨rfl, yes_if ?_⟩
        refine ⟨_, rfl, _, rfl, _, _, rfl, rfl, .inl ⟨by omega, by omega⟩, _, rfl, _, _, rfl, rfl, .inl ⟨_, rfl, _, rfl, _, _, rfl, rfl, hn0, Nat.le_of_ble_eq_true rfl, fun t ht => ?_⟩⟩
        dsimp only
        generalize hv : ((0 + (j : Int)) * at_ + (0 + (j : Int))) % n = v
        have hv0 : 0 ≤ v := by rw [← hv]; exact Int.emod_nonneg _ (by omega)
        have hv1 : v < n := by rw [← hv]; exact Int.emod_lt_of_pos _ hn0
        obtain ⟨Hc, ec, sc, kc⟩ := newH ht (.tup [V.int v])
        rw [ec]
        have ntD : t ≠ D := fun e => by
          rw [e, ej] at ht
          cases ht
        have ejc := sc _ _ ej
        refine ⟨zs, ejc, big' (by have := hzs.1; omega), zs ++ [.ref t], os ++ [[v]], same_put (sj.trans sc) hD, upd_same, ?_, by rw [List.length_append, hos]; rfl, ?_⟩
        · refine (hzs.mono fun o x => OptIn.tp (tp_put (Tp.same sc) ejc)).snoc ⟨t, rfl, ?_⟩
          rw [upd_ne ntD]
          exact kc
        · intro o ho
          rcases List.mem_append.mp ho with ho | ho
          · exact hoG o ho
          · rw [List.mem_singleton.mp ho]
            exact .one (by omega) hv1
      · rintro H12 ⟨zs, os, sj, ej, hzs, hos, hoG⟩
        refine ⟨lm, D, _, _, rfl, rfl, sj _ _ kb, ej, big (by have := hzs.1; rw [List.length_singleton]; omega), fun mp hmp => ?_⟩
        obtain ⟨Hd, ed, sd, kd⟩ := newH hmp (.lst ([V.ref q1] ++ zs))
        rw [ed]
        have s1 := (sa.trans sb).trans (sj.trans sd)
        have gd : Go d H9 Hd := (g10.trans g11).trans (.same g11.dr s1)
        have hm1 : Each (OptIn Hd) ([o1] ++ os) ([V.ref q1] ++ zs) := (Each.cons ⟨q1, rfl, ((sb.trans sj).trans sd) _ _ ka⟩ .nil).app (hzs.mono fun o x => OptIn.tp (.same sd))
        have edp := gd.fr p _ hpd e9
        have hxd := hxs9.mono fun o x => PosIn.tp (gd.tp g9.dr)
        obtain ⟨os0, x0, hos0, hat, hin⟩ := hxd.atI t0 (by rw [hA]; omega)
        obtain ⟨b0, zs0, rfl, eb0, hzs0⟩ := hin
        have hG0 := hG os0 (List.mem_of_getElem? hos0)
        refine ⟨_, rfl, _, rfl, p, _, _, _, rfl, rfl, sqd edp, hat, _, rfl, mp, _, rfl, .inl ⟨sqd kd, fun t2 ht2 => ?_⟩⟩
        obtain ⟨He, ee, se, ke⟩ := newH ht2 (.tup ([V.ref q1] ++ zs))
        rw [ee]
        refine catA_of (se _ _ eb0) ke (by have h1 := hzs0.1; have h2 := hm1.1; have h3 := hG0.1; rw [h2, List.length_append, hos, List.length_singleton]; omega) fun pc Hf sf ef => ?_
        refine ⟨9, rfl, ?_⟩
        refine slA_of ef fun ps Hg sg eg => ?_
        rw [show cutV (zs0 ++ ([V.ref q1] ++ zs)) none (some 9) = (zs0 ++ ([V.ref q1] ++ zs)).take 9 from cut_pre (k := 9)] at eg
        have seg := (se.trans sf).trans sg
        have egp := seg _ _ edp
        have hgg := gg.trans (gd.trans (.same gd.dr seg))
        have nps : ps ≠ p := fun e => by
          rw [e, egp] at eg
          cases eg
        refine ⟨_, rfl, _, rfl, p, _, _, _, rfl, rfl, egp, ixN_in t0 (by rw [hxd.1, hA]; omega), ?_⟩
        have tpp : Tp Hd (upd Hg p (.lst (xs.set at_.toNat (.ref ps)))) := tp_put (Tp.same seg) egp
        refine ⟨xs.set at_.toNat (.ref ps), A'.set at_.toNat ((os0 ++ ([o1] ++ os)).take 9), _, _, _, _, _, _, _, _, _, rfl, hgg.put2 hp0 hpd, upd_same, ?_, by rw [List.length_set]; exact hA, ?_⟩
        · refine (hxd.mono fun o x => PosIn.tp tpp).set _ ⟨ps, (zs0 ++ ([V.ref q1] ++ zs)).take 9, rfl, ?_, ?_⟩
          · rw [upd_ne nps]
            exact eg
          · exact ((hzs0.app hm1).take 9).mono fun o x => OptIn.tp tpp
        · intro o ho
          rcases List.mem_or_eq_of_mem_set ho with ho | rfl
          · exact hG o ho
          · refine ⟨by rw [List.length_take]; omega, fun w hw => ?_⟩
            have hw := List.mem_of_mem_take hw
            rcases List.mem_append.mp hw with hw | hw
            · exact hG0.2 w hw
            · rcases List.mem_append.mp hw with hw | hw
              · rw [List.mem_singleton.mp hw]
                exact og1
              · exact hoG w hw
    rintro σ H8 ⟨xs, A', y7, y8, y9, y10, y11, y12, y13, y14, y15, rfl, g8, e8, hxs, hA, hG⟩
    refine ⟨_, rfl, p, xs, rfl, .inl ⟨sqd e8, fun t ht => ?_⟩⟩
    have st := same_new ht (.tup xs)
    refine q _ A' _ (g8.trans (.same g8.dr st)) ⟨t, xs, rfl, upd_same, hxs.mono fun os x => PosIn.tp (.same st)⟩ ⟨by omega, fun os h => ?_⟩ (by omega) (.inl (by omega))
    rw [show (A'.length : Int) = n by omega]
    exact hG os h
end
end NL

namespace NL
open PySem PySem.Spec PyProof.Rows L2
theorem ints_snoc2 (ps : List Int) (l : Int) : (ps ++ [l]).map V.int = ps.map V.int ++ [V.int l] := by
  rw [List.map_append]
  rfl
theorem at_last {α : Type} {x : α} {xs : List α} : atI (xs ++ [x]) (-1) = some x := by
  unfold atI
  rw [show ixN (xs ++ [x]).length (-1) = some xs.length by
    unfold ixN
    rw [if_neg (by decide), if_pos (by rw [List.length_append, List.length_singleton]; omega), List.length_append, List.length_singleton]
    congr 1
    omega]
  simp
theorem lc_pairs {K : PySem.W.Frag} {a b : Addr} {xs ys : List V} {g : TG} {tt : TT} {te : TE} {vs : List Nat} {σ : L2.St} {H1 : Hp} {D : Addr} {Qd : Hp → Prop} (n : Nat) (hn : n = min xs.length ys.length) (Pv : Nat → Hp → Prop) (h0 : Pv 0 (upd H1 D (.lst []))) (hq : ∀ i H, Pv i H → SqT K H a xs ∧ SqT K H b ys)
    (hs : ∀ (i : Nat) (x y : V) (t : Addr) (H : Hp), xs[i]? = some x → ys[i]? = some y → Pv i H → H t = none → g (.ref t) (wipe σ vs) (upd H t (.tup [x, y])) fun σ2 H2 => wipe σ2 vs = wipe σ vs ∧ tt σ2 H2 fun c H3 =>
      if c = true then te σ2 H3 fun z H4 => ∃ acc, H4 D = some (.lst acc) ∧ acc.length < sizeLine ∧ Pv (i + 1) (upd H4 D (.lst (acc ++ [z]))) else Pv (i + 1) H3) (hd : ∀ H, Pv n H → Qd H) :
    ∃ W : Nat → Nat → Hp → Prop, (∃ m, W 0 m (upd H1 D (.lst []))) ∧ ∀ i m H, W i m H →
      ((RZ.ItzT K a b).stop i H ∧ Qd H) ∨ ((RZ.ItzT K a b).go i H ∧ ∃ Nx : Hp → Prop, (∀ H', Nx H' → ∃ m', m' < m ∧ W (i + 1) m' H') ∧ ∀ x H', (RZ.ItzT K a b).yld i H x H' → g x (wipe σ vs) H' fun σ2 H2 => wipe σ2 vs = wipe σ vs ∧ tt σ2 H2 fun c H3 =>
        if c = true then te σ2 H3 fun z H4 => ∃ acc, H4 D = some (.lst acc) ∧ acc.length < sizeLine ∧ Nx (upd H4 D (.lst (acc ++ [z]))) else Nx H3) := by
  refine ⟨fun i m H => m + i = n ∧ Pv i H, ⟨n, rfl, h0⟩, ?_⟩
  rintro i m H ⟨hi, p⟩
  obtain ⟨qx, qy⟩ := hq i H p
  by_cases lt : i < n
  · have ex : xs[i]? = some xs[i] := List.getElem?_eq_getElem (by omega)
    have ey : ys[i]? = some ys[i] := List.getElem?_eq_getElem (by omega)
    refine .inr ⟨⟨xs, ys, _, _, qx, qy, ex, ey⟩, Pv (i + 1), fun H' p' => ⟨m - 1, by omega, by omega, p'⟩, fun v H' y => ?_⟩
    obtain ⟨t, x1, y1, rfl, ht, rfl, f1, f2⟩ := y
    exact hs i x1 y1 t H (f1 xs qx) (f2 ys qy) p ht
  · have e : i = n := by omega
    subst e
    exact .inl ⟨⟨xs, ys, qx, qy, by omega⟩, hd H p⟩
theorem op_catAK {X : Cx} {K : PySem.W.Frag} (h : X.K = K) : OpR X (binaryOp .Add) (rCatA K) := by subst h; exact op_catA
end NL

set_option maxHeartbeats 4000000
namespace NL
open PySem PySem.Spec PyProof.Rows L2
/-! ### enumerate of a tuple -/
theorem draws_tup {P : Program} {w : World} {A : Around} (cold : A.handled = none) (j l : Addr) (apart : l ≠ j) (vs : Array Value) : Draws P w A j [j, l] vs.size (fun i v => vs[i]? = some v) (fun i h => h.IsTupleIter j l i ∧ h.IsTuple l vs) where
  live := fun _ _ st => by
    obtain ⟨⟨o, ho, _⟩, _⟩ := st
    exact ⟨o, ho⟩
  frame := fun _ _ _ st hold => by
    obtain ⟨st1, o, ho, hr⟩ := st
    exact ⟨st1.at fun ob e => hold j (by simp) ob e, o, hold l (by simp) o ho, hr⟩
  item := fun i s Q E hi st hQ => by
    refine RZ.nextOf_tuple_item st.1 st.2 (x := vs[i]) (by simp [hi]) fun g st1 sb => ?_
    refine hQ _ g s.toks (by simp [hi]) ⟨st1, ?_⟩ sb
    obtain ⟨o, ho, hr⟩ := st.2
    exact ⟨o, (sb.2 l apart).trans ho, hr⟩
  done := fun s Q E st hE => RZ.nextOf_tuple_end cold st.1 st.2 (by simp) hE
theorem enum_newT (l : Addr) (vs : Array Value) :
    Meets (Builtin.«enumerate.__new__» ⟨[.type "enumerate", .ref l], []⟩) (fun _ R s => s.heap.IsTuple l vs ∧
      R (.ok (.ret (.ref (s.heap.push { cls := .type "tuple_iterator", data := .fields #[.ref l, .int 0 0] }).objs.size)))
        { s with heap := (s.heap.push { cls := .type "tuple_iterator", data := .fields #[.ref l, .int 0 0] }).push { cls := .type "enumerate", data := .fields #[.none, .bool false, .ref s.heap.objs.size, rawInt 0, .none, .none] } }) :=
  .of_wp fun P w A R s r => by
    obtain ⟨hp, gs, dr, tk, os⟩ := s
    obtain ⟨tu, r⟩ := r
    have hsub := sub_enumerate
    have T2 : Heap.IsTuple (Shared.heap ⟨hp, gs, dr, tk, os⟩) l vs := tu
    obtain ⟨⟨c, dct, dt, sl⟩, hl, hc, n, hd⟩ := tu
    replace hc : c = .type "tuple" := hc
    replace hd : dt = .seq vs n := hd
    subst hc hd
    wp_walk using AutoSeq1.wpAny_loadPart' hl
    refine wpAny_stack_any fun st => wpAny_pure ?_
    split
    · rename_i c2 _ _ _ _ _
      cases (c2 == Value.type "enumerate")
      · wp_walk using AutoSeq1.wpAny_loadPart' hl, wpAny_pyIter_tuple T2
        exact ⟨_, rfl, r⟩
      · wp_walk using AutoSeq1.wpAny_loadPart' hl, wpAny_pyIter_tuple T2
        exact ⟨_, rfl, r⟩
    · wp_walk using AutoSeq1.wpAny_loadPart' hl, wpAny_pyIter_tuple T2
      exact ⟨_, rfl, r⟩
theorem enum_callT {P : Program} {w : World} {A : Around} {E : Value → Shared → Prop} {s : Shared} {l : Addr} {vs : Array Value} {Q : Value → Shared → Prop} (tu : s.heap.IsTuple l vs)
    (k : ∀ g, IsEnum g (s.heap.objs.size + 1) s.heap.objs.size 0 .none → g.IsTupleIter s.heap.objs.size l 0 → (∀ b o, s.heap.get? b = some o → g.get? b = some o) → Q (.ref (s.heap.objs.size + 1)) { s with heap := g }) :
    wpAny (model P w) A (call (.type "enumerate") [.ref l]) Q E s := by
  refine callType_new F.called_enumerate (by decide) (F.typeCall_enumerate_1 _) (F.newCall_enumerate_1 _) (fun ob => F.args_object_init_2 ob _) F.entry_enumerate_new (enum_newT l vs) ⟨tu, ?_⟩
  have sz : (s.heap.push { cls := .type "tuple_iterator", data := .fields #[.ref l, .int 0 0] }).objs.size = s.heap.objs.size + 1 := Heap.size_push ..
  show _ ∧ _
  rw [sz]
  have isE : IsEnum ((s.heap.push { cls := .type "tuple_iterator", data := .fields #[.ref l, .int 0 0] }).push { cls := .type "enumerate", data := .fields #[.none, .bool false, .ref s.heap.objs.size, rawInt 0, .none, .none] }) (s.heap.objs.size + 1) s.heap.objs.size 0 .none := by
    have top := Heap.get?_push_size (s.heap.push { cls := .type "tuple_iterator", data := .fields #[.ref l, .int 0 0] }) (o := { cls := .type "enumerate", data := .fields #[.none, .bool false, .ref s.heap.objs.size, rawInt 0, .none, .none] }) rfl
    rw [sz] at top
    exact top
  exact ⟨⟨_, isE, rfl⟩, k _ isE ⟨_, Heap.get?_push_of_some _ (Heap.get?_push_size _ rfl), rfl, rfl⟩ fun b o e => Heap.get?_push_of_some _ (Heap.get?_push_of_some _ e)⟩
/-- the tuple at a, each item in a new pair with its number -/
def EtT (K : PySem.W.Frag) (a : Addr) : L2.It :=
  ⟨fun i H => ∃ (xs : List V) (x : V), SqT K H a xs ∧ xs[i]? = some x, fun i H v H' => ∃ t x, v = .ref t ∧ H t = none ∧ H' = upd H t (.tup [.int (i : Nat), x]) ∧ ∀ xs, SqT K H a xs → xs[i]? = some x, fun i H => ∃ xs : List V, SqT K H a xs ∧ xs.length ≤ i⟩
theorem turn_enumT {P : Program} {w : World} {K : PySem.W.Frag} {elts : List Expr} {kk : Nat} {tpos : Pos} (a e j : Addr) :
    Turn P w K (.Tuple elts kk tpos) (EtT K a) [e, j] e (fun i h => (∃ old, IsEnum h e j ((i : Nat) : Int) old) ∧ h.IsTupleIter j a i ∧ e ≠ j) where
  mem := List.mem_cons_self
  obj := by
    rintro i h ⟨⟨old, isE⟩, ⟨o, ho, hc, hd⟩, _⟩ b hb
    have hb2 : b = e ∨ b = j := by simpa using hb
    rcases hb2 with rfl | rfl
    · exact ⟨_, isE, fun v q => nomatch q⟩
    · exact ⟨o, ho, fun v q => by rw [hd] at q; cases q⟩
  keep := by
    rintro i h g ⟨⟨old, isE⟩, isT, ne⟩ hold
    exact ⟨⟨old, hold e (by simp) _ isE⟩, isT.at fun o q => hold j (by simp) o q, ne⟩
  item := by
    rintro X rfl rfl rfl hcalm i pins s σ H E hinv hfp ⟨⟨old, isE⟩, isT, ne⟩ ⟨xs, x, hq, hx⟩
    obtain ⟨its, rv, pt, hz⟩ := hinv.tuple hq
    have tu : s.heap.IsTuple a its.toArray := pt
    obtain ⟨u, hu, ru⟩ := rv.get hx
    have ha : a ≠ j := fun q => by
      obtain ⟨o, ho, hc, _⟩ := id isT
      obtain ⟨o2, ho2, hc2, _⟩ := id tu
      rw [q, ho] at ho2
      cases ho2
      rw [hc] at hc2
      exact absurd (Value.type.inj hc2) (by decide)
    have hea : e ≠ a := fun q => by
      obtain ⟨o2, ho2, hc2, _⟩ := id tu
      have isE2 : s.heap.get? e = some _ := isE
      have e3 := (congrArg s.heap.get? q).symm.trans isE2
      rw [ho2] at e3
      cases e3
      exact absurd (Value.type.inj hc2) (by decide)
    have hlt : i < its.toArray.size := by
      have := (List.getElem?_eq_some_iff.mp hu).1
      simpa using this
    have cold := hinv.ok.hd hcalm
    refine wpAny_pyNext_enum_itemD (draws_tup (A := X.A.in1) cold j a ha its.toArray) isE ⟨isT, tu⟩ hlt ne (by simp [ne, hea]) fun y g tk hy ho st1 hT hsz hold => ?_
    have hyu : y = u := by
      have h2 : its[i]? = some y := by simpa using hy
      rw [hu] at h2
      exact (Option.some.inj h2).symm
    subst hyu
    refine ⟨_, rfl, wpAny_letOwnedTupleGo_enum (s := { s with heap := g, toks := tk + 1 }) ho fun g2 isE2 sb => ?_⟩
    have hel : e < s.heap.objs.size := Heap.lt_size isE
    have hjl : j < s.heap.objs.size := by
      obtain ⟨_, q, _⟩ := id isT
      exact Heap.lt_size q
    have hT2 : g2.get? s.heap.objs.size = some { cls := .type "tuple", data := .seq #[.int i tk, y] } := (sb.2 _ (Nat.ne_of_gt hel)).trans hT
    have made : ObjOk X.prog X.w (upd H s.heap.objs.size (.tup [.int (i : Nat), x])) g2 s.heap.objs.size (.tup [.int (i : Nat), x]) :=
      ⟨by show 2 ≤ sizeLine; decide, [.int i tk, y], .cons ⟨_, rfl⟩ (.cons ru .nil), ⟨_, hT2, rfl, _, rfl⟩⟩
    have inv2 : Inv X pins σ (upd H s.heap.objs.size (.tup [.int (i : Nat), x])) { s with heap := g2, toks := tk + 1 } :=
      hinv.turnedNew (ch := [e, j]) (fun b ob hb q => (sb.2 b (fun z => hb (by simp [z]))).trans (hold b ob (fun z => hb (by simp [z])) (fun z => hb (by simp [z])) q)) hfp (Nat.le_refl _) made
    refine ⟨.ref s.heap.objs.size, _, inv2, rfl, ⟨_, x, rfl, hinv.hok.fresh (Nat.le_refl _), rfl, fun ys hy2 => by rw [hinv.tuple_inj hy2 hq]; exact hx⟩, ⟨⟨y, ?_⟩, st1.1.at fun o q => (sb.2 j (Ne.symm ne)).trans q, ne⟩, fun b hb => ?_⟩
    · have e1 : ((i + 1 : Nat) : Int) = (i : Int) + 1 := by omega
      rw [e1]
      exact isE2
    · have hb2 : b < s.heap.objs.size := by
        have z : b = e ∨ b = j := by simpa using hb
        rcases z with rfl | rfl
        · exact hel
        · exact hjl
      rw [upd_ne (Nat.ne_of_lt hb2)]
      exact (hfp b hb).1
  done := by
    rintro X rfl rfl rfl hcalm i pins s σ H E hinv hfp ⟨⟨old, isE⟩, isT, ne⟩ ⟨xs, hq, hx⟩
    obtain ⟨its, rv, pt, hz⟩ := hinv.tuple hq
    have tu : s.heap.IsTuple a its.toArray := pt
    have hT : s.TypeIs (.ref e) "enumerate" := ⟨_, isE, rfl⟩
    obtain ⟨f0, f1, f2, f3, f4, f5⟩ := hfp j (by simp)
    have hl := rv.length
    have cold := hinv.ok.hd hcalm
    unfold pyNext
    refine wpAny_bind (wpAny_attempt (wpAny_callSpecial?_slot (name := Str.ofString "__next__") hT F.slot_enumerate_next
      (wpAny_call_entry F.slot_enumerate_next hT F.entry_enumerate_next ?_ (F.args_enumerate_next_1 _))))
    show wpAny _ _ (field (.ref e) 2 >>= _) _ _ _
    refine wpAny_bind (wpAny_field isE rfl (x := .ref j) rfl (wpAny_bind (RZ.nextOf_tuple_end cold isT tu (by simp; omega) fun g x eb ⟨o, ho, hc⟩ => ?_)))
    refine wpAny_bind (wpAny_isInstance (T := "StopIteration") (b := true) ⟨o, ho, hc⟩ isSubtype_stop (wpAny_pure ⟨rfl, hinv.turned (t' := s.toks) (fun b o hb q => eb b o hb q) f0 f1 f3 f4 f5⟩))
  self := by
    rintro A i s Q E ⟨⟨_, isE⟩, _⟩ h
    exact wpAny_pyIter_enum isE h
def iEnumT (K : PySem.W.Frag) (ta : TA) : TI := fun σ H R => ta σ H fun vs H1 => ∃ a xs, vs = [.ref a] ∧ SqT K H1 a xs ∧ R (EtT K a) H1
theorem pi_enumT {X : Cx} {ex : Expr} {ta : TA} {p pos tpos : Pos} {elts : List Expr} {kk : Nat} (hg : Gl X "enumerate") (hm : X.mg "enumerate" = none) (ha : PA X [ex] ta) (hs : starEach [ex] X.env = [(false, eval ex X.env)] := by rfl) :
    PI X (.Tuple elts kk tpos) (.Call (.Name "enumerate" p) [ex] [] pos) (iEnumT X.K ta) := by
  refine ⟨fun pins s σ H R hinv h => ?_⟩
  refine Call_ (ld_blt hinv hg hm boot_enumerate (PyProof.Rows.callWith_type1 (thn (ha.run pos pins s σ H _ hinv h) fun us s1 ⟨vs, H1, inv1, hv, q1⟩ => ?_) hs rfl))
  obtain ⟨a, xs, rfl, hq, q⟩ := q1
  cases hv with
  | cons r rest =>
    cases rest
    cases r
    obtain ⟨its, rv, pt, hz⟩ := inv1.tuple hq
    refine enum_callT (show s1.heap.IsTuple a its.toArray from pt) fun g isE isT hold => wpAny_pyIter_enum isE ?_
    have inv2 : Inv X pins σ H1 { s1 with heap := g } := inv1.kept (t' := s1.toks) hold
    refine ⟨s1.heap.objs.size + 1, [s1.heap.objs.size + 1, s1.heap.objs.size], _, _, H1, rfl, inv2, turn_enumT a (s1.heap.objs.size + 1) s1.heap.objs.size, ⟨⟨.none, isE⟩, isT, Nat.succ_ne_self _⟩, fun b hb => ?_, q⟩
    have hle : s1.heap.objs.size ≤ b := by
      have z : b = s1.heap.objs.size + 1 ∨ b = s1.heap.objs.size := by simpa using hb
      rcases z with z | z
      · rw [z]; exact Nat.le_succ _
      · rw [z]; exact Nat.le_refl _
    exact inv1.fpOk hle (inv1.hok.fresh hle)
theorem lc_enumT {K : PySem.W.Frag} {a : Addr} {xs : List V} {g : TG} {tt : TT} {te : TE} {vs : List Nat} {σ : L2.St} {H1 : Hp} {D : Addr} {Qd : Hp → Prop} (Pv : Nat → Hp → Prop) (h0 : Pv 0 (upd H1 D (.lst []))) (hq : ∀ i H, Pv i H → SqT K H a xs)
    (hs : ∀ (i : Nat) (x : V) (t : Addr) (H : Hp), xs[i]? = some x → Pv i H → H t = none → g (.ref t) (wipe σ vs) (upd H t (.tup [.int (i : Nat), x])) fun σ2 H2 => wipe σ2 vs = wipe σ vs ∧ tt σ2 H2 fun c H3 =>
      if c = true then te σ2 H3 fun z H4 => ∃ acc, H4 D = some (.lst acc) ∧ acc.length < sizeLine ∧ Pv (i + 1) (upd H4 D (.lst (acc ++ [z]))) else Pv (i + 1) H3) (hd : ∀ H, Pv xs.length H → Qd H) :
    ∃ W : Nat → Nat → Hp → Prop, (∃ m, W 0 m (upd H1 D (.lst []))) ∧ ∀ i m H, W i m H →
      ((EtT K a).stop i H ∧ Qd H) ∨ ((EtT K a).go i H ∧ ∃ Nx : Hp → Prop, (∀ H', Nx H' → ∃ m', m' < m ∧ W (i + 1) m' H') ∧ ∀ x H', (EtT K a).yld i H x H' → g x (wipe σ vs) H' fun σ2 H2 => wipe σ2 vs = wipe σ vs ∧ tt σ2 H2 fun c H3 =>
        if c = true then te σ2 H3 fun z H4 => ∃ acc, H4 D = some (.lst acc) ∧ acc.length < sizeLine ∧ Nx (upd H4 D (.lst (acc ++ [z]))) else Nx H3) := by
  refine ⟨fun i m H => m + i = xs.length ∧ Pv i H, ⟨xs.length, rfl, h0⟩, ?_⟩
  rintro i m H ⟨hi, p⟩
  have q := hq i H p
  by_cases lt : i < xs.length
  · have ex : xs[i]? = some xs[i] := List.getElem?_eq_getElem lt
    refine .inr ⟨⟨xs, _, q, ex⟩, Pv (i + 1), fun H' p' => ⟨m - 1, by omega, by omega, p'⟩, fun v H' y => ?_⟩
    obtain ⟨t, x1, rfl, ht, rfl, f1⟩ := y
    exact hs i x1 t H (f1 xs q) p ht
  · have e : i = xs.length := by omega
    subst e
    exact .inl ⟨⟨xs, q, Nat.le_refl _⟩, hd H p⟩
end NL

namespace NL
open PySem PySem.Spec PyProof.Rows L2
/-- the mark at an index, from before or from behind -/
def mkAt (bs : List Bool) (i : Int) : Bool := (atI bs i).getD false
section
variable {prog : Program} {w : World} {A : Around} {env : Env} {s : Shared}
theorem low_ix {E : Value → Shared → Prop} {m : Addr} {ms : List Value} {bs : List Bool} {mm : Str → Option Value} {i : Int} {t : Tok} {p1 p2 p3 : Pos} {Q : Value → Shared → Prop}
    (hk : env.scope.kind = .function) (hm : env.kindOf "marks" = some .local) (ha : env.kindOf "after" = some .local)
    (hn : s.heap.Ns env.locals mm) (h2 : mm "marks" = some (.ref m)) (h3 : mm "after" = some (.int i t))
    (hl : s.heap.IsList m ms.toArray) (hb : Vals (bs.map V.bl) ms) (hz : ms.length ≤ sizeLine) (hin : (atI bs i).isSome = true)
    (h : Q (.bool (mkAt bs i)) s) :
    wpAny (model prog w) A (eval (.Subscript (.Name "marks" p1) (.Name "after" p2) p3) env) Q E s := by
  refine Subscript_ ?_
  refine wpAny_Name (wpAny_loadName_local hk hm hn h2 ?_)
  refine wpAny_Name (wpAny_loadName_local hk ha hn h3 ?_)
  obtain ⟨b, eb⟩ := Option.isSome_iff_exists.mp hin
  have hbm : mkAt bs i = b := by unfold mkAt; rw [eb]; rfl
  rw [hbm] at h
  obtain ⟨j, q1, q2, q3, q4, q5⟩ := atI_get eb
  have hl2 := hb.length
  rw [List.length_map] at hl2
  obtain ⟨u, eu, ru⟩ := hb.get (i := j) (x := V.bl b) (by rw [List.getElem?_map, q2]; rfl)
  have e : u = .bool b := ru
  subst e
  have hn63 := line63
  by_cases h0 : 0 ≤ i
  · have hj : i.toNat = j := by
      rw [seqIndex_of h0 q5] at q1
      exact Option.some.inj q1
    exact item_listR hl h0 (by omega) (by rw [hj]; simpa using eu) h
  · have hj : (i + (ms.toArray.size : Int)).toNat = j := by
      rw [seqIndex_neg (by omega) q4] at q1
      rw [List.size_toArray, ← hl2]
      exact Option.some.inj q1
    exact subscriptTail_builtinR (x := .bool b) hl.typeIs slot_list_getitem.lookup
      (wpAny_getItem_list_neg (Q := fun r s' => r = .bool b ∧ Q r s') hl (by omega) (by rw [List.size_toArray] <;> omega) (by omega) (by rw [hj]; simpa using eu) ⟨rfl, h⟩)

theorem low_bool {E : Value → Shared → Prop} {c : Bool} {k : Nat} {p : Pos} {Q : Value → Shared → Prop} (h : Q (.bool c) s) : wpAny (model prog w) A (eval (.Constant (.bool c) k p) env) Q E s := fun _ _ _ => h
/-- for after in option: if (not) marks[after]: return r1 .. return r2 -/
theorem low_body {o m : Addr} {its ms : List Value} {is : List Int} {bs : List Bool} {mm : Str → Option Value} {test : Expr} {fl r1 r2 : Bool} {k1 k2 : Nat} {p1 p2 q1 q2 q3 q4 q5 q6 q7 q8 q9 : Pos}
    (hh : A.handled = none) (hk : env.scope.kind = .function) (ho : env.kindOf "option" = some .local) (hm : env.kindOf "marks" = some .local) (ha : env.kindOf "after" = some .local)
    (hn : s.heap.Ns env.locals mm) (h1 : mm "option" = some (.ref o)) (h2 : mm "marks" = some (.ref m)) (ht : s.heap.IsTuple o its.toArray) (hl : s.heap.IsList m ms.toArray)
    (hi : Vals (is.map V.int) its) (hb : Vals (bs.map V.bl) ms) (hz : ms.length ≤ sizeLine) (hin : ∀ i ∈ is, (atI bs i).isSome = true)
    (htest : ∀ (s' : Shared) (E' : Value → Shared → Prop) (Q : Bool → Shared → Prop) (b : Bool), wpAny (model prog w) A (eval (.Subscript (.Name "marks" q1) (.Name "after" q2) q3) env) (fun v s₁ => v = .bool b ∧ s₁ = s') E' s' → Q (fl ^^ b) s' → wpAny (model prog w) A (isTrue test env (eval test env)) Q E' s') :
    wpAny (model prog w) A (execs [.For (.Name "after" p1) (.Name "option" p2) [.If test [.Return (some (.Constant (.bool r1) k1 q4)) q5] [] q6] [] q7, .Return (some (.Constant (.bool r2) k2 q8)) q9] env)
      (fun f s' => f = .ret (.bool (if is.any (fun i => fl ^^ mkAt bs i) then r1 else r2)) ∧ ∃ h' tk, s' = { s with heap := h', toks := tk } ∧ ∀ b o, b ≠ env.locals → s.heap.get? b = some o → h'.get? b = some o) (fun _ _ => False) s := by
  have hp : (env.scope.kind == .class || (env.scope.kind == .module && env.locals != env.globals)) = false := by rw [hk]; rfl
  have hL : env.locals < s.heap.objs.size := hn.lt
  have hto : o < s.heap.objs.size := by obtain ⟨_, e, _⟩ := ht; exact Heap.lt_size e
  have hno : env.locals ≠ o := fun e => by
    obtain ⟨ob, es, ep, e1, e2, _⟩ := hn
    obtain ⟨ob2, f1, f2, n, f3⟩ := ht
    rw [e, f1] at e1
    cases e1
    rw [f3] at e2
    cases e2
  have hnm : env.locals ≠ m := fun e => by
    obtain ⟨ob, es, ep, e1, e2, _⟩ := hn
    obtain ⟨ob2, f1, f2, n, f3⟩ := hl
    rw [e, f1] at e1
    cases e1
    rw [f3] at e2
    cases e2
  have hml : m < s.heap.objs.size := by obtain ⟨_, e, _⟩ := hl; exact Heap.lt_size e
  have hlen : its.length = is.length := by have := hi.length; rw [List.length_map] at this; exact this.symm
  refine wpAny_execs_cons (exec_For_goes ?_)
  refine wpAny_Name (wpAny_loadName_local hk ho hn h1 ?_)
  refine wpAny_pyIter_tuple ht ?_
  refine ⟨_, _, _, _, _, _, fun i s₁ => (is.take i).any (fun i => fl ^^ mkAt bs i) = false ∧ ∃ h₁ tk m₁, s₁ = { s with heap := h₁, toks := tk } ∧ h₁.Ns env.locals m₁ ∧ m₁ "marks" = some (.ref m) ∧ ∀ b ob, b ≠ env.locals → s.heap.get? b = some ob → h₁.get? b = some ob, rfl,
    Goes.tuple hh s.heap.objs.size o (Nat.ne_of_lt hto) its.toArray, ⟨⟨_, Heap.get?_push_size _ rfl, rfl, rfl⟩, ?_⟩, ⟨by rw [List.take_zero]; rfl, _, _, mm, rfl, hn.at' fun ob e => Heap.get?_push_of_some _ e, h2, fun b ob _ e => Heap.get?_push_of_some _ e⟩, ?_, ?_, ?_⟩
  · obtain ⟨ob, e, r⟩ := ht
    exact ⟨ob, Heap.get?_push_of_some _ e, r⟩
  · rintro i s₁ h' tk ⟨ha1, h₁, tk₁, m₁, rfl, n₁, t₁, k₁⟩ hk' _
    refine ⟨ha1, h', tk, m₁, rfl, n₁.at' fun ob e => hk' _ ob (by simp; exact Nat.ne_of_lt hL) e, t₁, fun b ob hb e => hk' b ob ?_ (k₁ b ob hb e)⟩
    have hlt := Heap.lt_size e
    simp
    exact Nat.ne_of_lt hlt
  · rintro i v s₁ hi' hv st ⟨ha1, h₁, tk₁, m₁, rfl, n₁, t₁, k₁⟩
    have hv' : its[i]? = some v := by simpa using hv
    obtain ⟨x, hx⟩ : ∃ x, is[i]? = some x := ⟨_, List.getElem?_eq_getElem (by rw [← hlen]; simpa using hi')⟩
    obtain ⟨u, eu, t, rfl⟩ := hi.get (i := i) (x := V.int x) (by rw [List.getElem?_map, hx]; rfl)
    rw [hv'] at eu
    cases eu
    refine wpAny_assign_Name (wpAny_storeName_local ha n₁ (fun h₂ n₂ s₂ => ?_) hp)
    have k₂ : ∀ b ob, b ≠ env.locals → s.heap.get? b = some ob → h₂.get? b = some ob := fun b ob hb e => s₂.extBut b ob hb (k₁ b ob hb e)
    have hl₂ : h₂.IsList m ms.toArray := by
      obtain ⟨ob, e, r⟩ := hl
      exact ⟨ob, k₂ m ob hnm.symm e, r⟩
    have hbx := hin x (List.mem_of_getElem? hx)
    refine wpAny_execs_cons (wpAny_If (htest _ _ _ (mkAt bs x) (low_ix hk hm ha n₂ ((if_neg (by decide)).trans t₁) (if_pos rfl) hl₂ hb hz hbx ⟨rfl, rfl⟩) ?_))
    have hnext : (is.take (i + 1)).any (fun i => fl ^^ mkAt bs i) = (fl ^^ mkAt bs x) := by
      rw [List.take_add_one, hx, List.any_append, ha1]
      simp
    cases hc : (fl ^^ mkAt bs x) with
    | true =>
      refine wpAny_execs_cons (wpAny_Return_some ?_)
      refine low_bool ?_
      have hany : is.any (fun i => fl ^^ mkAt bs i) = true := List.any_eq_true.mpr ⟨x, List.mem_of_getElem? hx, hc⟩
      refine ⟨by rw [hany]; rfl, h₂, _, rfl, k₂⟩
    | false =>
      refine wpAny_execs_nil (wpAny_execs_nil ⟨⟨by rw [hnext, hc], h₂, _, _, rfl, n₂, (if_neg (by decide)).trans t₁, k₂⟩, ?_⟩)
      exact ⟨st.1.at fun ob e => s₂.extBut _ _ (Nat.ne_of_gt hL) e, st.2.at fun ob e => s₂.extBut _ _ hno.symm e⟩
  · rintro s₁ ⟨ha1, h₁, tk₁, m₁, rfl, n₁, t₁, k₁⟩
    refine wpAny_execs_nil (wpAny_execs_cons (wpAny_Return_some ?_))
    refine low_bool ?_
    rw [show its.toArray.size = is.length by rw [List.size_toArray, hlen], List.take_length] at ha1
    refine ⟨by rw [ha1]; rfl, h₁, _, rfl, k₁⟩
end
end NL

namespace NL
open PySem PySem.Spec PyProof.Rows L2
/-- the test of such a def: not marks[after], or marks[after] -/
def MarkTest (fl : Bool) (q1 q2 q3 : Pos) (test : Expr) : Prop :=
  (fl = true ∧ ∃ q, test = .UnaryOp .Not (.Subscript (.Name "marks" q1) (.Name "after" q2) q3) q) ∨ (fl = false ∧ test = .Subscript (.Name "marks" q1) (.Name "after" q2) q3)
/-- a def of this form -/
structure MarkFn (K : PySem.W.Frag) (nm : Str) (st : Stmt) (f : Addr) (fd : FuncData) (fl r1 r2 : Bool) : Prop where
  F : L2.Fun K nm nm st f fd
  bd : Binds K fd ["option", "marks"] []
  body : ∃ (test : Expr) (k1 k2 : Nat) (p1 p2 q1 q2 q3 q4 q5 q6 q7 q8 q9 : Pos), MarkTest fl q1 q2 q3 test ∧ defBody st = [.For (.Name "after" p1) (.Name "option" p2) [.If test [.Return (some (.Constant (.bool r1) k1 q4)) q5] [] q6] [] q7, .Return (some (.Constant (.bool r2) k2 q8)) q9]
  kind : (defScope st).kind = .function
  co : (defScope st).isCoroutine = false
  gen : (defScope st).isGenerator = false
  cell : ∀ y ∈ (defScope st).names, y.2 ≠ .cell
  lo : (defScope st).names.lookup ("option" : Str) = some .local
  lm : (defScope st).names.lookup ("marks" : Str) = some .local
  la : (defScope st).names.lookup ("after" : Str) = some .local
section
variable {prog : Program} {w : World} {A : Around} {s : Shared}
theorem mark_test {env : Env} {fl : Bool} {q1 q2 q3 : Pos} {test : Expr} (h : MarkTest fl q1 q2 q3 test) (s' : Shared) (E' : Value → Shared → Prop) (Q : Bool → Shared → Prop) (b : Bool)
    (he : wpAny (model prog w) A (eval (.Subscript (.Name "marks" q1) (.Name "after" q2) q3) env) (fun v s₁ => v = .bool b ∧ s₁ = s') E' s') (hq : Q (fl ^^ b) s') : wpAny (model prog w) A (isTrue test env (eval test env)) Q E' s' := by
  have base : ∀ Q' : Bool → Shared → Prop, Q' b s' → wpAny (model prog w) A (isTrue (.Subscript (.Name "marks" q1) (.Name "after" q2) q3) env (eval (.Subscript (.Name "marks" q1) (.Name "after" q2) q3) env)) Q' E' s' := fun Q' h' =>
    isTrue_plain (wpAny_mono he (fun v s₁ r => by
      obtain ⟨rfl, rfl⟩ := r
      exact wpAny_truthy_bool h') fun _ _ x => x)
  rcases h with ⟨rfl, q, rfl⟩ | ⟨rfl, rfl⟩
  · exact isTrue_not (base _ (by rw [Bool.true_xor] at hq; exact hq))
  · exact base _ (by rw [Bool.false_xor] at hq; exact hq)
theorem low_call {E : Value → Shared → Prop} {K : PySem.W.Frag} {nm : Str} {st : Stmt} {f : Addr} {fd : FuncData} {fl r1 r2 : Bool} (M : MarkFn K nm st f fd fl r1 r2) (hK : K.In s.heap) (hlim : s.heap.NoLimit) (hh : A.handled = none) (hd : A.depth < recursionLimit)
    {o m : Addr} {its ms : List Value} {is : List Int} {bs : List Bool} (ht : s.heap.IsTuple o its.toArray) (hl : s.heap.IsList m ms.toArray)
    (hi : Vals (is.map V.int) its) (hb : Vals (bs.map V.bl) ms) (hz : ms.length ≤ sizeLine) (hin : ∀ i ∈ is, (atI bs i).isSome = true) :
    wpAny (model prog w) A (call (.ref f) [.ref o, .ref m]) (fun y s₃ => y = .bool (if is.any (fun i => fl ^^ mkAt bs i) then r1 else r2) ∧ Keeps s s₃) E s := by
  obtain ⟨⟨⟨oc, od, kV, doc, pm, an, cdv, ct, osl, rfl, lk, hcd⟩, kp⟩, bd, ⟨test, k1, k2, p1, p2, q1, q2, q3, q4, q5, q6, q7, q8, q9, hT, hbody⟩, kind, co, gen, cell, lo, lm, la⟩ := M
  refine wpAny_call (codeAny_call_function hd (hK _ _ lk) rfl co gen rfl (PySem.W.codeRec_of hK hcd) (bd s [.ref o, .ref m] hK rfl _ _ _ _ ?_))
  refine wpAny_newFunctionEnv cell (fun y hy => ?_) (fun h₁ hns hsb => ⟨?_, ?_⟩) kind
  · rcases List.mem_cons.mp hy with rfl | hy
    · exact lo
    · rcases List.mem_cons.mp hy with rfl | hy
      · exact lm
      · cases hy
  · exact hlim.fresh _ hsb
  have kk : ∀ b ob, s.heap.get? b = some ob → h₁.get? b = some ob := fun b ob e => hsb.extBut b ob (Nat.ne_of_lt (Heap.lt_size e)) (Heap.get?_push_of_some _ e)
  refine codeAny_func ?_
  have hb2 : (PySem.W.fnOf nm nm (defArgs st) (defBody st) (defScope st) .none kV doc pm an cdv ct).body = .stmts (defBody st) := rfl
  rw [hbody]
  refine wpAny_mono (low_body (o := o) (m := m) (is := is) (bs := bs) (mm := fun x => ((["option", "marks"] : List Str).zip [Value.ref o, Value.ref m]).reverse.lookup x) hh kind lo lm la hns rfl rfl
    (by obtain ⟨ob, e, r⟩ := ht; exact ⟨ob, kk _ _ e, r⟩) (by obtain ⟨ob, e, r⟩ := hl; exact ⟨ob, kk _ _ e, r⟩) hi hb hz hin (fun s' E' Q b => mark_test hT s' E' Q b)) (fun fl' s' r => ?_) fun _ _ x => x.elim
  obtain ⟨rfl, h', tk, rfl, k'⟩ := r
  exact ⟨rfl, h', tk, rfl, fun b ob e => k' b ob (Nat.ne_of_lt (Heap.lt_size e)) (kk b ob e)⟩
end
end NL

set_option maxHeartbeats 2000000
namespace NL
open PySem PySem.Spec PyProof.Rows L2
/-- the element of a generator expression over the item u gives b, and changes nothing that stood -/
def ElV (X : Cx) (P : Addr) (scope : Scope) (nm : Str) (elt : Expr) (σ : L2.St) (H1 : Hp) (x : V) (b : Bool) : Prop :=
  ∀ (pins : List (Addr × Obj)) (s1 : Shared) (u : Value), Inv X pins σ H1 s1 → RelV x u →
    ∀ (cenv : Env) (A' : Around) (E' : Value → Shared → Prop) (s₂ : Shared) (m₂ : Str → Option Value), cenv.scope = scope → cenv.cells = cloFrom X.env.cells scope.names [] → cenv.globals = X.env.globals →
      A'.handled = none → A'.depth ≤ X.A.depth + 1 → A'.units ≤ X.A.units + 8 → s₂.heap.Ns cenv.locals m₂ → m₂ nm = some u → (∀ c o, c ≠ P → s1.heap.get? c = some o → s₂.heap.get? c = some o) →
      wpAny (model X.prog X.w) A' (eval elt cenv) (fun y s₃ => y = .bool b ∧ Keeps s₂ s₃) E' s₂
def bAt (bs : List Bool) (j : Nat) : Bool := (bs[j]?).getD false
theorem any_bAt (bs : List Bool) : (List.range bs.length).any (bAt bs) = bs.any id := by
  rw [Bool.eq_iff_iff, List.any_eq_true, List.any_eq_true]
  constructor
  · rintro ⟨j, hj, h⟩
    have hj' := List.mem_range.mp hj
    refine ⟨bs[j], List.getElem_mem hj', ?_⟩
    unfold bAt at h
    rw [List.getElem?_eq_getElem hj'] at h
    exact h
  · rintro ⟨b, hb, h⟩
    obtain ⟨j, hj, rfl⟩ := List.getElem_of_mem hb
    refine ⟨j, List.mem_range.mpr hj, ?_⟩
    unfold bAt
    rw [List.getElem?_eq_getElem hj]
    exact h
theorem all_bAt (bs : List Bool) : (List.range bs.length).all (bAt bs) = bs.all id := by
  rw [Bool.eq_iff_iff, List.all_eq_true, List.all_eq_true]
  constructor
  · intro h b hb
    obtain ⟨j, hj, rfl⟩ := List.getElem_of_mem hb
    have q := h j (List.mem_range.mpr hj)
    unfold bAt at q
    rw [List.getElem?_eq_getElem hj] at q
    exact q
  · intro h j hj
    have hj' := List.mem_range.mp hj
    unfold bAt
    rw [List.getElem?_eq_getElem hj']
    exact h _ (List.getElem_mem hj')
section
variable {X : Cx} {pins : List (Addr × Obj)} {σ : L2.St} {H : Hp} {s : Shared}
/-- the generator at g gives the truths bs, one after the other -/
def Gives (X : Cx) (pins : List (Addr × Obj)) (σ : L2.St) (H1 : Hp) (P : Addr) (bs : List Bool) (g : Addr) (s5 : Shared) : Prop :=
  ∃ (fp wr : List Addr) (G : Array GenState → Array GenState → Prop) (F : Nat → Value → Prop) (St : Nat → Shared → Prop), WalksS X.prog X.w X.A.in1 g fp wr G bs.length F St ∧ St 0 s5 ∧ TruthOf X.prog X.w X.A.in1 F (bAt bs) ∧
    ∀ s', Moved wr G s5 s' → ∃ H2, GxR.Tabbed P H1 H2 ∧ Inv X pins σ H2 s'
theorem gen_tup {c P : Addr} {elt iter : Expr} {nm : Str} {px gpos : Pos} {scope : Scope} {te : TE} {k : Nat} {Q' : Value → Shared → Prop} {R : List Bool → Hp → Prop}
    (hr : Room k X.A) (TB : GxR.TabB X.base X.mg c P) (hcode : X.env.code = .ref c) (S : GxR.GenS X.env scope nm) (hi : PE X iter te)
    (hs : ∀ v, genFold iter X.env v = pure v) (I : Inv X pins σ H s)
    (h : te σ H fun v H1 => ∃ (a : Addr) (xs : List V) (bs : List Bool), v = .ref a ∧ SqT X.K H1 a xs ∧ bs.length = xs.length ∧ GxR.TabG H1 P ∧ (∀ (i : Nat) x b, xs[i]? = some x → bs[i]? = some b → ElV X P scope nm elt σ H1 x b) ∧ R bs H1)
    (hQ : ∀ bs H1 g s5, R bs H1 → Gives X pins σ H1 P bs g s5 → Q' (.ref g) s5) :
    wpAny (model X.prog X.w) X.A (eval (.GeneratorExp elt [⟨.Name nm px, iter, [], 0⟩] scope gpos) X.env) Q' X.xe s := by
  refine wpAny_GeneratorExp_walksQD hr.hd S.co (closure_ok S.free) S.cell S.dot S.loc S.kind hr.depth ?_ hs
  refine thn (hi.run pins s σ H _ I h) fun xv s1 ⟨v, H1, I1, r1, q1⟩ => ?_
  obtain ⟨a, xs, bs, rfl, hT, hbl, ⟨ps, hP, ht⟩, hE, hR⟩ := q1
  obtain rfl : xv = Value.ref a := r1
  obtain ⟨its, rv, pl, hz⟩ := I1.tuple hT
  have plT : s1.heap.IsTuple a its.toArray := pl
  have hPs : s1.heap.get? P = some { cls := .none, data := .fields ps } := I1.hok P _ hP
  have hPlt : P < s1.heap.objs.size := Heap.lt_size hPs
  have halt : a < s1.heap.objs.size := by
    obtain ⟨_, e, _⟩ := pl
    exact Heap.lt_size e
  have haP : a ≠ P := fun e => by
    obtain ⟨ob, e1, e2, _⟩ := pl
    rw [e, hPs] at e1
    cases e1
    cases e2
  have hil : its.length = bs.length := by rw [hbl]; exact rv.length.symm
  refine wpAny_pyIter_tuple plT ?_
  generalize ho : ({ cls := Value.type "tuple_iterator", data := Data.fields #[Value.ref a, Value.int 0 0] } : Obj) = ob
  have hP2 : (s1.heap.push ob).get? P = some { cls := .none, data := .fields ps } := Heap.get?_push_of_some _ hPs
  have cd : PySem.W.CodeHd (s1.heap.push ob) c P := TB.code.keeps fun b u e => Heap.get?_push_of_some _ (I1.bk b u e)
  have lim2 : (s1.heap.push ob).NoLimit := I1.nolimit.push ob
  have hst0 : (s1.heap.push ob).IsTupleIter s1.heap.objs.size a 0 ∧ (s1.heap.push ob).IsTuple a its.toArray := by
    refine ⟨⟨ob, Heap.get?_push_size _ (by rw [← ho] <;> rfl), ?_, ?_⟩, ?_⟩
    · rw [← ho]
    · rw [← ho] <;> rfl
    · obtain ⟨o2, e, r⟩ := pl
      exact ⟨o2, Heap.get?_push_of_some _ e, r⟩
  have cont : ∀ (code : Value) (h3 : Heap) (tk : Nat) (ps' : Array Value), Heap.ExtBut P (s1.heap.push ob) h3 → (s1.heap.push ob).objs.size ≤ h3.objs.size → h3.get? P = some { cls := .none, data := .fields ps' } → (∃ more, ps' = ps ++ more) → TriplesOk ps'.toList →
      wpAny (model X.prog X.w) X.A (builtinsFor X.env.globals X.env.builtins) (fun bi s₄ =>
        ∃ Ia fp wr n₀ Pf St₀ pz F, Value.ref s1.heap.objs.size = .ref Ia ∧ (∀ A' : Around, A'.handled = none → Walks X.prog X.w A' Ia fp wr n₀ Pf St₀) ∧ St₀ 0 s₄.heap ∧ (∀ b ∈ fp, b < s₄.heap.objs.size) ∧ s₄.heap.NoLimit ∧ cStatics ∉ wr ∧
          (∀ href : Heap, (∀ b o, s₄.heap.get? b = some o → href.get? b = some o) →
            QuietGenD X.prog X.w (genEnv scope (cloFrom X.env.cells scope.names []) s₄.heap.objs.size code bi X.env) nm [] elt (List.range s₄.heap.objs.size) wr Pf pz F href (X.A.depth + 1) (X.A.units + 8)) ∧
          (∀ a h₅ tk gs, gs.bare = true → s₄.heap.objs.size < a → h₅.objs.size = a + 1 → (∀ b o, s₄.heap.get? b = some o → h₅.get? b = some o) →
            WalksS X.prog X.w X.A.in4 a (a :: s₄.heap.objs.size :: List.range s₄.heap.objs.size) (s₄.heap.objs.size :: wr) (GenOnlyQ s₄.gens.size) (passing pz n₀ 0).length
              (fun j y => ∃ i, (passing pz n₀ 0)[j]? = some i ∧ F i y) (GenAt X.prog X.w X.A.in4 a s₄.gens.size s₄.heap.objs.size (List.range s₄.heap.objs.size) wr pz n₀ F) →
            GenAt X.prog X.w X.A.in4 a s₄.gens.size s₄.heap.objs.size (List.range s₄.heap.objs.size) wr pz n₀ F 0 { s₄ with gens := s₄.gens.push gs, toks := tk, heap := h₅ } →
            Q' (.ref a) { s₄ with gens := s₄.gens.push gs, toks := tk, heap := h₅ })) X.xe { s1 with heap := h3, toks := tk } := by
    intro code h3 tk ps' hx hsz hP3 hmore ht3
    obtain ⟨bm, obm, e1, e2, e3, e4, e5, e6, e7, e8⟩ := TB.bm
    have hcP : cStatics ≠ P := fun e => by
      obtain ⟨_, hns, _⟩ := I1.nolimit
      obtain ⟨o', es, ep, ho', hd, _⟩ := hns
      rw [e, hPs] at ho'
      cases ho'
      cases hd
    have hcl : cStatics < s1.heap.objs.size := let ⟨_, hns, _⟩ := I1.nolimit; hns.lt
    have sz2 : (s1.heap.push ob).objs.size = s1.heap.objs.size + 1 := Heap.size_push ..
    have keep3 : ∀ b u, b ≠ P → s1.heap.get? b = some u → h3.get? b = some u := fun b u hb e => hx b u hb (Heap.get?_push_of_some _ e)
    have h0lt : s1.heap.objs.size < h3.objs.size := Nat.lt_of_lt_of_le (Nat.lt_succ_self _) (by rw [sz2] at hsz; exact hsz)
    have hIP : s1.heap.objs.size ≠ P := Nat.ne_of_gt hPlt
    refine wpAny_builtinsFor (m := X.mg) (by rw [I1.ok.glob]; exact ((I1.mod.glob.keeps I1.bk).push ob).extBut hx TB.gP) e1 e2 (keep3 _ _ e4 (I1.bk _ _ e5)) e6 e7 e8 ?_
    refine ⟨s1.heap.objs.size, [s1.heap.objs.size, a], [s1.heap.objs.size], its.toArray.size, (fun i v => its.toArray[i]? = some v), (fun i h => h.IsTupleIter s1.heap.objs.size a i ∧ h.IsTuple a its.toArray), (fun _ => true), (fun i y => ∃ b, bs[i]? = some b ∧ y = .bool b), rfl,
      (fun A' hA => Walks.tuple hA s1.heap.objs.size a (Nat.ne_of_lt halt) its.toArray), ?_, ?_, lim2.extBut hx hcP, ?_, ?_, ?_⟩
    · refine ⟨?_, ?_⟩
      · obtain ⟨o2, f1, f2⟩ := hst0.1
        exact ⟨o2, hx _ _ hIP f1, f2⟩
      · obtain ⟨o2, f1, f2⟩ := hst0.2
        exact ⟨o2, hx _ _ haP f1, f2⟩
    · intro b hb
      show b < h3.objs.size
      rcases List.mem_cons.mp hb with z | z
      · rw [z]
        exact h0lt
      · rw [List.mem_singleton.mp z]
        exact Nat.lt_trans halt h0lt
    · intro z
      exact Nat.ne_of_lt hcl (List.mem_singleton.mp z)
    · intro href hhref
      refine ⟨fun A' E' i v s₂ m₂ hA hD hU hPv hn hm hk => ?_, fun A' E' i v s₂ m₂ hA hD hU hPv hp hn hm hk => ?_⟩
      · simp only [List.forIn_nil]
        exact wpAny_pure ⟨rfl, GxR.keeps_refl _⟩
      · have hv : its[i]? = some v := by simpa using hPv
        have hib : i < bs.length := by rw [← hil]; exact (List.getElem?_eq_some_iff.mp hv).1
        have hix : i < xs.length := by rw [← hbl]; exact hib
        obtain ⟨u, eu, ru⟩ := rv.get (List.getElem?_eq_getElem hix)
        rw [hv] at eu
        cases eu
        have hb2 := List.getElem?_eq_getElem hib
        refine wpAny_mono (hE i _ _ (List.getElem?_eq_getElem hix) hb2 pins s1 v I1 ru _ A' E' s₂ m₂ rfl rfl rfl hA hD hU hn hm fun b o hb e => ?_) (fun y s3 r => ⟨⟨_, hb2, r.1⟩, r.2⟩) fun _ _ e => e
        have e3 := keep3 b o hb e
        exact hk b (List.mem_range.mpr (Heap.lt_size e3)) (fun z => by
          have hlt := Heap.lt_size e
          rw [List.mem_singleton.mp z] at hlt
          exact Nat.lt_irrefl _ hlt) o (hhref b o e3)
    · intro g h5 tk5 gs hgb hag hsz5 hk5 W5 hat
      simp only [GxR.passing_true, List.length_range, List.size_toArray, hil] at W5
      have hat2 := hat
      simp only [List.size_toArray, hil] at hat2
      refine hQ bs H1 g _ hR ⟨_, _, _, _, _, W5.in4_1, hat2, ?_, fun s' hm => ?_⟩
      · intro j y sj Qj Ej hy hQj
        obtain ⟨i, hij, b, hb, rfl⟩ := hy
        obtain ⟨hj, ej⟩ := List.getElem?_eq_some_iff.mp hij
        rw [List.getElem_range] at ej
        subst ej
        have hQ2 : Qj (bAt bs j) sj := hQj
        unfold bAt at hQ2
        rw [hb] at hQ2
        exact wpAny_truthy_bool hQ2
      · obtain ⟨more, em⟩ := hmore
        have nwr : ∀ b u, s1.heap.get? b = some u → b ∉ h3.objs.size :: [s1.heap.objs.size] := fun b u e hb => by
          have hl := Heap.lt_size e
          rcases List.mem_cons.mp hb with z | z
          · rw [z] at hl
            have h9 : (h3.objs.size : Nat) < s1.heap.objs.size := hl
            omega
          · rw [List.mem_singleton.mp z] at hl
            exact Nat.lt_irrefl _ hl
        have J := GxR.inv_tab (more := more) (h' := s'.heap) (g' := s'.gens) (d' := s'.drawn) (t' := s'.toks) I1 hP (fun b u hb e => hm.heap b u (nwr b u e) (hk5 b u (keep3 b u hb e)))
          (by rw [← em]; exact hm.heap P _ (nwr P _ hPs) (hk5 P _ hP3)) (AllBare.movedS (I1.bare.push hgb) hm)
        rw [GxR.sh_eta s1 s' hm.os] at J
        exact ⟨upd H1 P (.tbl (ps ++ more)), ⟨⟨ps ++ more, upd_same, by rw [← em]; exact ht3⟩, fun b hb => upd_ne hb⟩, J⟩
  refine ⟨lim2, ?_⟩
  cases hf : codeAmong gpos ps.toList with
  | none =>
    refine wpAny_genexprCodeX hcode (cd.code hP2 ht) (cd.tab hP2) hf fun c' h' tk hx hge hlt hco' _ htab' _ => ?_
    obtain ⟨o1, vs, f1, tf, fl, tg, inF, tx, tt, op, _, _, _, _, _, _, _, _, _, htr, _⟩ := hco'
    exact cont _ h' tk _ hx (Nat.le_trans hge (Nat.le_of_lt hlt)) htab'.2 ⟨_, rfl⟩ htr
  | some cv =>
    refine wpAny_genexprCode_hit hcode (cd.code hP2 ht) hf ?_
    exact cont cv (s1.heap.push ob) s1.toks ps (Heap.ExtBut.refl _ _) (Nat.le_refl _) hP2 ⟨#[], by simp⟩ ht
/-- any(test for nm in e), all(test for nm in e), e a tuple -/
def tGenM (X : Cx) (P : Addr) (scope : Scope) (nm : Str) (elt : Expr) (f : List Bool → Bool) (te : TE) : TE := fun σ H Q => te σ H fun v H1 => ∃ (a : Addr) (xs : List V) (bs : List Bool), v = .ref a ∧ SqT X.K H1 a xs ∧ bs.length = xs.length ∧ GxR.TabG H1 P ∧
  (∀ (i : Nat) x b, xs[i]? = some x → bs[i]? = some b → ElV X P scope nm elt σ H1 x b) ∧ ∀ H2, GxR.Tabbed P H1 H2 → Q (.bl (f bs)) H2
theorem pe_anyM {c P : Addr} {elt iter : Expr} {nm : Str} {px p pos gpos : Pos} {scope : Scope} {te : TE} {k : Nat}
    (hr : Room k X.A) (hg : Gl X "any") (hm : X.mg "any" = none) (TB : GxR.TabB X.base X.mg c P) (hcode : X.env.code = .ref c) (S : GxR.GenS X.env scope nm) (hi : PE X iter te)
    (hs : ∀ v, genFold iter X.env v = pure v)
    (he : starEach [.GeneratorExp elt [⟨.Name nm px, iter, [], 0⟩] scope gpos] X.env = (false, eval (.GeneratorExp elt [⟨.Name nm px, iter, [], 0⟩] scope gpos) X.env) :: starEach [] X.env := by rfl) :
    PE X (.Call (.Name "any" p) [.GeneratorExp elt [⟨.Name nm px, iter, [], 0⟩] scope gpos] [] pos) (tGenM X P scope nm elt (·.any id) te) := by
  refine ⟨fun pins s σ H Q I h => ?_⟩
  refine wpAny_Call_Name_kw (ld_blt I hg hm boot_any ?_)
  refine PyProof.Rows.callWith_builtin1 ?_ he (by rfl)
  rw [he]
  show wpAny _ _ (spliced ((false, eval (.GeneratorExp elt [⟨.Name nm px, iter, [], 0⟩] scope gpos) X.env) :: backTo pos (starEach [] X.env))) _ _ s
  refine Calls.spliced_cons (gen_tup (R := fun bs H1 => ∀ H2, GxR.Tabbed P H1 H2 → Q (.bl (bs.any id)) H2) hr TB hcode S hi hs I h fun bs H1 g s5 hR hG => ?_)
  obtain ⟨fp, wr, G, F, St, W, hst, htr, hI⟩ := hG
  refine Calls.spliced_nil (call_any_walkS (W.self 0 _ _ _ hst ⟨g, fp, wr, G, _, F, St, _, rfl, W, hst, htr, fun s' hmv => ?_⟩))
  obtain ⟨H2, hT, J⟩ := hI s' hmv
  refine ⟨.bl _, H2, J, rfl, ?_⟩
  rw [any_bAt]
  exact hR H2 hT
theorem pe_allM {c P : Addr} {elt iter : Expr} {nm : Str} {px p pos gpos : Pos} {scope : Scope} {te : TE} {k : Nat}
    (hr : Room k X.A) (hg : Gl X "all") (hm : X.mg "all" = none) (hb : bootBuiltins "all" = some (.builtin "all")) (TB : GxR.TabB X.base X.mg c P) (hcode : X.env.code = .ref c) (S : GxR.GenS X.env scope nm) (hi : PE X iter te)
    (hs : ∀ v, genFold iter X.env v = pure v)
    (he : starEach [.GeneratorExp elt [⟨.Name nm px, iter, [], 0⟩] scope gpos] X.env = (false, eval (.GeneratorExp elt [⟨.Name nm px, iter, [], 0⟩] scope gpos) X.env) :: starEach [] X.env := by rfl) :
    PE X (.Call (.Name "all" p) [.GeneratorExp elt [⟨.Name nm px, iter, [], 0⟩] scope gpos] [] pos) (tGenM X P scope nm elt (·.all id) te) := by
  refine ⟨fun pins s σ H Q I h => ?_⟩
  refine wpAny_Call_Name_kw (ld_blt I hg hm hb ?_)
  refine PyProof.Rows.callWith_builtin1 ?_ he (by rfl)
  rw [he]
  show wpAny _ _ (spliced ((false, eval (.GeneratorExp elt [⟨.Name nm px, iter, [], 0⟩] scope gpos) X.env) :: backTo pos (starEach [] X.env))) _ _ s
  refine Calls.spliced_cons (gen_tup (R := fun bs H1 => ∀ H2, GxR.Tabbed P H1 H2 → Q (.bl (bs.all id)) H2) hr TB hcode S hi hs I h fun bs H1 g s5 hR hG => ?_)
  obtain ⟨fp, wr, G, F, St, W, hst, htr, hI⟩ := hG
  refine Calls.spliced_nil (call_all_walkS (W.self 0 _ _ _ hst ⟨g, fp, wr, G, _, F, St, _, rfl, W, hst, htr, fun s' hmv => ?_⟩))
  obtain ⟨H2, hT, J⟩ := hI s' hmv
  refine ⟨.bl _, H2, J, rfl, ?_⟩
  rw [all_bAt]
  exact hR H2 hT
end
end NL

set_option maxHeartbeats 2000000
namespace NL
open PySem PySem.Spec PyProof.Rows L2
theorem elv_mark {X : Cx} {P : Addr} {scope : Scope} {fnm : Str} {st : Stmt} {f : Addr} {fd : FuncData} {fl r1 r2 : Bool} {p p1 p2 pos : Pos} {σ : L2.St} {H1 : Hp} {k i : Nat} {m o : Addr} {is : List Int} {bs : List Bool}
    (M : MarkFn X.K fnm st f fd fl r1 r2) (hmg : X.mg fnm = some (.ref f)) (hr : Room k X.A) (hsk : scope.kind = .function) (hsl : scope.names.lookup ("option" : Str) = some .local) (hsf : scope.names.lookup ("marks" : Str) = some .free)
    (hsg : scope.names.lookup fnm = some .globalImplicit) (hclo : cloFrom X.env.cells scope.names [] = [(("marks" : Str), (X.env.cells.lookup ("marks" : Str)).getD 0)])
    (hN : X.N[i]? = some ("marks" : Str)) (hcell : X.env.kindOf ("marks" : Str) = some .cell) (hσ : σ[i]? = some (some (.ref m))) (hP : GxR.TabG H1 P)
    (hm : H1 m = some (.lst (bs.map V.bl))) (ho : H1 o = some (.tup (is.map V.int))) (hin : ∀ i ∈ is, (atI bs i).isSome = true)
    (hdb : (fnm == ("__debug__" : Str)) = false) :
    ElV X P scope "option" (.Call (.Name fnm p) [.Name "option" p1, .Name "marks" p2] [] pos) σ H1 (.ref o) (if is.any (fun i => fl ^^ mkAt bs i) then r1 else r2) := by
  intro pins s1 u I ru cenv A' E' s₂ m₂ hsc hce hgl hA hD hU hn2 hm2 hk
  obtain rfl : u = Value.ref o := ru
  obtain ⟨ps, hP, _⟩ := hP
  have hnP : ∀ b, H1 b = none → b ≠ P := fun b e z => by
    rw [z, hP] at e
    cases e
  have hb : ∀ b ob, X.base.get? b = some ob → s₂.heap.get? b = some ob := fun b ob e => hk b ob (hnP b (I.bs b ob e).2) (I.bk b ob e)
  have hKs : X.K.In s₂.heap := I.ok.mod.kin.keeps hb
  obtain ⟨its, rv, plo, _⟩ := I.tuple (a := o) (xs := is.map V.int) (.inl (.inl ho))
  obtain ⟨ms, rm, plm, hz⟩ := I.list (a := m) (xs := bs.map V.bl) (.inl (.inl hm))
  have hnT : ∀ {b : Addr} {q : HO}, H1 b = some q → (∀ qs, q ≠ .tbl qs) → b ≠ P := fun {b q} e n z => by
    rw [z, hP] at e
    exact n ps (Option.some.inj e).symm
  have ht2 : s₂.heap.IsTuple o its.toArray := by
    obtain ⟨ob, e, r⟩ := plo
    exact ⟨ob, hk o ob (hnT ho (fun qs z => nomatch z)) e, r⟩
  have hl2 : s₂.heap.IsList m ms.toArray := by
    obtain ⟨ob, e, r⟩ := plm.isList
    exact ⟨ob, hk m ob (hnT hm (fun qs z => nomatch z)) e, r⟩
  obtain ⟨mm, _, hloc⟩ := I.loc
  obtain ⟨v, rv2, hlook⟩ := hloc i _ _ hN hσ (.inr (.inl hcell))
  obtain rfl : v = Value.ref m := rv2
  obtain ⟨c, hc1, hc2⟩ : ∃ c, X.env.cells.lookup ("marks" : Str) = some c ∧ s1.heap.IsCell c (some (.ref m)) := by
    rcases hlook with ⟨h1, _⟩ | ⟨_, c, h1, h2⟩
    · rw [hcell] at h1
      cases h1
    · exact ⟨c, h1, h2⟩
  have hc3 : s₂.heap.IsCell c (some (.ref m)) := by
    obtain ⟨ob, e, r⟩ := hc2
    exact ⟨ob, hk c ob (hnP c (I.freeC _ _ hc1)) e, r⟩
  have hcl : cenv.cells.lookup ("marks" : Str) = some c := by
    rw [hce, hclo, hc1]
    rfl
  have hkind : cenv.scope.kind = .function := by rw [hsc]; exact hsk
  have kOf : ∀ x kd, scope.names.lookup x = some kd → cenv.kindOf x = some kd := fun x kd e => by
    show cenv.scope.names.lookup x = some kd
    rw [hsc]
    exact e
  refine wpAny_Call_Name_kw (Calls.Name_function_global hkind (kOf _ _ hsg) (Calls.loadGlobal_global (by rw [hgl, I.ok.glob]; exact I.mod.glob.keeps hb) hmg ?_) hdb)
  refine PySem.W.callWith_K (h₀ := X.base) I.ok.mod.kin M.F.kp ?_
  show wpAny _ _ (spliced ((false, eval (.Name "option" p1) cenv) :: (false, eval (.Name "marks" p2) cenv) :: [])) _ _ s₂
  refine Calls.spliced_cons (wpAny_Name (wpAny_loadName_local hkind (kOf _ _ hsl) hn2 hm2 ?_))
  refine Calls.spliced_cons (wpAny_Name (wpAny_loadName_free hkind (kOf _ _ hsf) hcl hc3 ?_))
  refine Calls.spliced_nil ⟨hKs, ?_⟩
  have dp := hr.dp
  exact low_call M hKs (I.ok.mod.nolimit.keeps hb) hA (by omega) ht2 hl2 rv rm (by rw [← rm.length]; exact hz) hin
end NL

set_option maxHeartbeats 2000000
namespace NL
open PySem PySem.Spec PyProof.Rows L2
/-! ### what is kept by a def whose table may grow -/
def NT : HO → Prop
  | .tbl _ => False
  | _ => True
structure Sm (P : Addr) (H H' : Hp) : Prop where
  fr : ∀ b o, NT o → H b = some o → H' b = some o
  tb : GxR.TabG H P → GxR.TabG H' P
  dom : ∀ b, H' b = none → H b = none
theorem Sm.refl {P : Addr} {H : Hp} : Sm P H H := ⟨fun _ _ _ e => e, fun h => h, fun _ e => e⟩
theorem Sm.trans {P : Addr} {H H1 H2 : Hp} (a : Sm P H H1) (b : Sm P H1 H2) : Sm P H H2 := ⟨fun c o n e => b.fr c o n (a.fr c o n e), fun h => b.tb (a.tb h), fun c e => a.dom c (b.dom c e)⟩
theorem Sm.of {P : Addr} {H H' : Hp} (s : Same H H') : Sm P H H' := ⟨fun b o _ e => s b o e, fun ⟨ps, e, t⟩ => ⟨ps, s _ _ e, t⟩, fun b e => s.free e⟩
theorem Sm.tbd {P : Addr} {H H' : Hp} (t : GxR.TabG H P) (h : GxR.Tabbed P H H') : Sm P H H' := by
  refine ⟨fun b o n e => ?_, fun _ => h.1, fun b e => ?_⟩
  · by_cases hb : b = P
    · obtain ⟨ps, e2, _⟩ := t
      rw [hb, e2] at e
      cases e
      cases n
    · rw [h.2 b hb]
      exact e
  · by_cases hb : b = P
    · obtain ⟨ps, e2, _⟩ := h.1
      rw [hb, e2] at e
      cases e
    · rw [← h.2 b hb]
      exact e
theorem Sm.tup {P : Addr} {H H' : Hp} {b : Addr} {xs : List V} (h : Sm P H H') (e : H b = some (.tup xs)) : H' b = some (.tup xs) := h.fr b _ trivial e
theorem Sm.lst {P : Addr} {H H' : Hp} {b : Addr} {xs : List V} (h : Sm P H H') (e : H b = some (.lst xs)) : H' b = some (.lst xs) := h.fr b _ trivial e
theorem Sm.dK {P : Addr} {H H' : Hp} {b : Addr} {xs : List (Key × V)} (h : Sm P H H') (e : H b = some (.dK xs)) : H' b = some (.dK xs) := h.fr b _ trivial e
theorem Sm.tp {P : Addr} {H H' : Hp} (h : Sm P H H') : Tp H H' := fun a xs e => h.tup e
theorem Sm.put {P : Addr} {H H' : Hp} {p : Addr} {o : HO} (s : Sm P H H') (hp : H p = none) (hP : p ≠ P) : Sm P H (upd H' p o) := by
  refine ⟨fun b u n e => ?_, fun t => ?_, fun b e => ?_⟩
  · rw [upd_ne (ne_of_none e hp)]
    exact s.fr b u n e
  · obtain ⟨ps, e, t⟩ := s.tb t
    exact ⟨ps, by rw [upd_ne (Ne.symm hP)]; exact e, t⟩
  · by_cases hb : b = p
    · rw [hb]
      exact hp
    · rw [upd_ne hb] at e
      exact s.dom b e
theorem Sm.seqT {P : Addr} {K : PySem.W.Frag} {H H' : Hp} {a : Addr} {xs : List V} (s : Sm P H H') (h : SqT K H a xs) : SqT K H' a xs := by
  rcases h with (h | ⟨o, h⟩) | h
  · exact .inl (.inl (s.fr _ _ trivial h))
  · exact .inl (.inr ⟨o, s.fr _ _ trivial h⟩)
  · exact .inr h
theorem Sm.seqL {P : Addr} {K : PySem.W.Frag} {H H' : Hp} {a : Addr} {xs : List V} (s : Sm P H H') (h : SqL K H a xs) : SqL K H' a xs := by
  rcases h with (h | ⟨o, h⟩) | h
  · exact .inl (.inl (s.fr _ _ trivial h))
  · exact .inl (.inr ⟨o, s.fr _ _ trivial h⟩)
  · exact .inr h
theorem TabG.ne {H : Hp} {P b : Addr} {o : HO} (t : GxR.TabG H P) (n : NT o) (e : H b = some o) : b ≠ P := fun z => by
  obtain ⟨ps, e2, _⟩ := t
  rw [z, e2] at e
  cases e
  cases n
theorem TabG.ne0 {H : Hp} {P b : Addr} (t : GxR.TabG H P) (e : H b = none) : b ≠ P := fun z => by
  obtain ⟨ps, e2, _⟩ := t
  rw [z, e2] at e
  cases e
theorem TabG.same {H H' : Hp} {P : Addr} (t : GxR.TabG H P) (s : Same H H') : GxR.TabG H' P := by
  obtain ⟨ps, e2, r⟩ := t
  exact ⟨ps, s _ _ e2, r⟩
theorem TabG.put {H : Hp} {P p : Addr} {o : HO} (t : GxR.TabG H P) (hp : p ≠ P) : GxR.TabG (upd H p o) P := by
  obtain ⟨ps, e2, r⟩ := t
  exact ⟨ps, by rw [upd_ne (Ne.symm hp)]; exact e2, r⟩
theorem Go.tab {d P : Addr} {H H' : Hp} (g : Go d H H') (h : Dr H d) (t : GxR.TabG H P) : GxR.TabG H' P := by
  obtain ⟨ps, e2, r⟩ := t
  refine ⟨ps, g.fr P _ (fun z => ?_) e2, r⟩
  obtain ⟨ns, e⟩ := h
  rw [← z, e2] at e
  cases e
/-! ### a def whose code has a table -/
theorem gens_of {env : Env} {scope : Scope} {x : Str} (a : scope.kind = .function) (b : scope.isCoroutine = false) (c : ∀ y ∈ scope.names, y.2 ≠ .cell) (d : scope.names.lookup (".0" : Str) = some NameKind.local) (e : scope.names.lookup x = some .local)
    (f : ∀ y ∈ scope.names, y.2 = .free → ∃ c, env.cells.lookup y.1 = some c) : GxR.GenS env scope x := ⟨a, b, c, d, e, f⟩
theorem cells_has {qual : Str} {sc scope : Scope} {L f : Addr} {cd : Value} (h : ∀ y ∈ scope.names, y.2 = .free → sc.names.lookup y.1 = some .cell) : ∀ y ∈ scope.names, y.2 = .free → ∃ c, (envOfC qual sc L f cd).cells.lookup y.1 = some c := fun y hy e =>
  Option.isSome_iff_exists.mp (PySem.W.cellsFrom_some _ _ _ (.inl (h y hy e)))
theorem okC {P : Program} {w : World} {K : PySem.W.Frag} {mg : Str → Option Value} {base : Heap} {x qual : Str} {st : Stmt} {f c : Addr} {fd : FuncData} {N ps : List Str} {k : Nat} {sp : Sp} (F : L2.Fun K x qual st f fd) (hc : fd.code = .ref c) (S : FnScope N ps (defScope st)) (len : ∀ vs H Q E, sp vs H Q E → vs.length = ps.length)
    (hbody : ∀ (A : Around) (outer : List Env) (s : Shared) (H : Hp) (vs : List V) (Q : VK) (E : XK), Room k (A.deeper (envOfC qual (defScope st) s.heap.objs.size f (.ref c))) → sp vs H Q E →
      ∃ t, PSs (cxOf CX0 P w K mg base N qual (defScope st) f (.ref c) A outer s H E).nox (defBody st) t ∧ t { nx := fun _ H' => Q .non H', rt := Q } (start N vs) H) : FnOk P w K mg base CX0 (k + 1) f fd ps sp := by
  obtain ⟨⟨oc, od, kV, doc, pm, an, cdv, ct, osl, rfl, lk, hcd⟩, kp⟩ := F
  obtain rfl : cdv = .ref c := hc
  refine fn_of lk hcd S len fun A outer s H vs Q E hr hsp => ?_
  obtain ⟨t, h, q⟩ := hbody A outer s H vs Q E hr hsp
  exact ⟨t, h.nox, q⟩
/-! ### forces -/
def frcF (side : Int) (os : Pos') (bs : List Bool) : Bool := if side = 0 then os.any (fun o => o.all (mkAt bs)) else os.all (fun o => o.any (mkAt bs))
section
variable {P : Program} {w : World} {K : PySem.W.Frag} {mg : Str → Option Value} {base : Heap}
def spForces (K : PySem.W.Frag) (Pt : Addr) : Sp := fun vs H Q _ => ∃ (side : Int) (v : V) (m : Addr) (os : Pos') (bs : List Bool), vs = [.int side, v, .ref m] ∧ PosIn H os v ∧ H m = some (.lst (bs.map V.bl)) ∧ GxR.TabG H Pt ∧ (∀ o ∈ os, ∀ i ∈ o, (atI bs i).isSome = true) ∧
  ∀ H', Sm Pt H H' → Q (.bl (frcF side os bs)) H'
theorem mark_all (T : Txt K mg) : MarkFn K "_all_marked" s_all_marked T.a_all_marked T.d_all_marked true false true :=
  ⟨T.F_all_marked, T.b_all_marked, ⟨_, _, _, _, _, _, _, _, _, _, _, _, _, _, .inl ⟨rfl, _, rfl⟩, rfl⟩, rfl, rfl, rfl, by decide +kernel, by decide +kernel, by decide +kernel, by decide +kernel⟩
theorem mark_some (T : Txt K mg) : MarkFn K "_some_marked" s_some_marked T.a_some_marked T.d_some_marked false true false :=
  ⟨T.F_some_marked, T.b_some_marked, ⟨_, _, _, _, _, _, _, _, _, _, _, _, _, _, .inr ⟨rfl, rfl⟩, rfl⟩, rfl, rfl, rfl, by decide +kernel, by decide +kernel, by decide +kernel, by decide +kernel⟩
theorem not_any {α : Type} (l : List α) (p : α → Bool) : (if l.any (fun i => true ^^ p i) = true then false else true) = l.all p := by
  cases h : l.any (fun i => true ^^ p i) with
  | true =>
    obtain ⟨x, hx, hp⟩ := List.any_eq_true.mp h
    rw [if_pos rfl]
    exact (List.all_eq_false.mpr ⟨x, hx, by simpa using hp⟩).symm
  | false =>
    rw [if_neg Bool.false_ne_true]
    refine (List.all_eq_true.mpr fun x hx => ?_).symm
    have := List.any_eq_false.mp h x hx
    simpa using this
theorem ok_forces (T : Txt K mg) {c Pt : Addr} (TB : GxR.TabB base mg c Pt) (hc : T.dforces.code = .ref c) : FnOk P w K mg base CX0 2 T.aforces T.dforces Pforces (spForces K Pt) := by
  refine okC T.Fforces hc scforces (fun vs H Q E h => ?_) (fun A outer s H vs Q E hr h => ?_)
  · obtain ⟨side, v, m, os, bs, rfl, _⟩ := h
    rfl
  obtain ⟨side, v, m, os, bs, rfl, ⟨b0, xs, rfl, e0, hxs⟩, hm, hT, hin, q⟩ := h
  have hC : Cx.env (cxOf CX0 P w K mg base Nforces "forces" (defScope sforces) T.aforces (.ref c) A outer s H E).nox = envOfC "forces" (defScope sforces) s.heap.objs.size T.aforces (.ref c) := rfl
  refine ⟨_, (pss_cons (ps_if (pt_cmpR op_eq (pv 0) (pe_glob rfl T.g_CONTROLLER T.r_CONTROLLER) (nomark _))
    (pss_one (ps_ret (pe_anyM hr (by rfl) T.z_any TB rfl (gens_of (by rfl) (by rfl) (by decide) (by rfl) (by rfl) (cells_has (by decide))) (pv 1) (fun _ => rfl))))
    pss_nil)
    (pss_one (ps_ret (pe_allM hr (by rfl) T.z_all (by decide +kernel) TB rfl (gens_of (by rfl) (by rfl) (by decide) (by rfl) (by rfl) (cells_has (by decide))) (pv 1) (fun _ => rfl))))), ?_⟩
  refine ⟨_, rfl, rfl, _, rfl, ?_⟩
  refine ite2 (fun z => ?_) (fun z => ?_)
  · have hs0 : side = 0 := int_eq z
    refine ⟨_, rfl, b0, xs, os.map (fun o => o.all (mkAt bs)), rfl, .inl (.inl e0), by rw [List.length_map]; exact hxs.1.symm, hT, fun i x b hx hb => ?_, fun H2 h2 => ?_⟩
    · rw [List.getElem?_map] at hb
      obtain ⟨o, ho, rfl⟩ := Option.map_eq_some_iff.mp hb
      obtain ⟨bo, rfl, eo⟩ := hxs.2 i o x ho hx
      rw [← not_any o (mkAt bs)]
      exact elv_mark (i := 2) (mark_all T) T.m_all_marked hr (by rfl) (by rfl) (by rfl) (by rfl) (by rfl) (by rfl) (by rfl) (by rfl) hT hm eo (hin o (List.mem_of_getElem? ho)) (by decide +kernel)
    · have e : frcF side os bs = (os.map (fun o => o.all (mkAt bs))).any id := by
        unfold frcF
        rw [if_pos hs0, List.any_map]
        rfl
      have q3 := q H2 (.tbd hT h2)
      rw [e] at q3
      exact q3
  · have hs0 : side ≠ 0 := int_ne z
    refine ⟨_, rfl, b0, xs, os.map (fun o => o.any (mkAt bs)), rfl, .inl (.inl e0), by rw [List.length_map]; exact hxs.1.symm, hT, fun i x b hx hb => ?_, fun H2 h2 => ?_⟩
    · rw [List.getElem?_map] at hb
      obtain ⟨o, ho, rfl⟩ := Option.map_eq_some_iff.mp hb
      obtain ⟨bo, rfl, eo⟩ := hxs.2 i o x ho hx
      have e : (if (o.any fun i => false ^^ mkAt bs i) = true then true else false) = o.any (mkAt bs) := by
        rw [show (fun i => false ^^ mkAt bs i) = mkAt bs from funext fun i => Bool.false_xor _]
        cases o.any (mkAt bs) <;> rfl
      rw [← e]
      exact elv_mark (i := 2) (mark_some T) T.m_some_marked hr (by rfl) (by rfl) (by rfl) (by rfl) (by rfl) (by rfl) (by rfl) (by rfl) hT hm eo (hin o (List.mem_of_getElem? ho)) (by decide +kernel)
    · have e : frcF side os bs = (os.map (fun o => o.any (mkAt bs))).all id := by
        unfold frcF
        rw [if_neg hs0, List.all_map]
        rfl
      have q3 := q H2 (.tbd hT h2)
      rw [e] at q3
      exact q3
end
end NL

set_option maxHeartbeats 2000000
namespace NL
open PySem PySem.Spec PyProof.Rows L2
/-- the end of a law whose program holds a generator expression in the def nm -/
theorem walk_tab {l : PySem.W.OpenLaw} {n k : Nat} {q : Program} {loose : List Str} {XP : (Str → Option Value) → Heap → Prop} {YP : World → Heap → Prop} {d : DefRec} {K : Params → PySem.W.Frag} {CX : World → CXT} {x : Str} (nm : Str)
    (hn : l.most = some n) (hn2 : n ≤ sizeLine) (hdf : d.params.defaults = []) (hr : Room k callerA) (hrec : ((recsOf q).any fun e => e.name == nm) = true) (hY : ∀ (w : World) (h : Heap), YP w h → (K w.params).In h)
    (F : ∀ (w : World) (mg : Str → Option Value) (fa : Addr) (h : Heap), YP w h → (K w.params).In h → h.Ns mainGlobals mg → mg d.name = some (.ref fa) → (∀ f, mg nm = some (.ref f) → LamX.OwnTab (K w.params) f h) → LamX.LawAtS l w (K w.params) (CX w) k n x mg fa h)
    (hCX : ∀ (w : World) (H : Hp) (s : Shared) (e : Value) (s' : Shared), CX w [] H s (fun _ _ _ => False) e s' → False) :
    PySem.W.WalkO q loose XP YP l.row.toRowW d [] (fun f vs => PySem.call f vs) := by
  refine Att.attach_callB hn hdf fun w s0 s1 mg mb fa ob pm cd doc a vs ns Gt Y hob hd hcd hmg hobj hints hlen hbits hg => ?_
  have KX := hY w _ Y
  have own : ∀ f, mg nm = some (.ref f) → LamX.OwnTab (K w.params) f s1.heap := fun f hf c P o1 fd1 e dd vs1 sl k1 k2 k3 k4 k5 => by
    obtain ⟨dL, hm, hn1⟩ := List.any_eq_true.mp hrec
    have hn3 : dL.name = nm := beq_iff_eq.mp hn1
    obtain ⟨a', o', fd', c', P', h1, h2, h3, h4, h5, h6⟩ := Gt.T.tab dL hm
    rw [hn3, hf] at h1
    cases h1
    rw [KX _ _ k1] at h2
    cases h2
    rw [k2] at h3
    cases h3
    rw [k3] at h4
    cases h4
    obtain ⟨⟨oc, vc, e1, _, e3, e4⟩, hP⟩ := h6
    rw [KX _ _ k4] at e1
    cases e1
    cases e3
    rw [k5] at e4
    cases e4
    exact hP
  obtain ⟨fd, cs, sp, hT, nT, C, hb, hsp, hF⟩ := F w mg fa _ Y KX Gt.T.g hmg own
  exact LamX.law_callTs KX Gt.T.g Gt.T.b Gt.T.builtins Gt.T.nolimit hg hT nT C Gt.T.bmain hobj hints (Nat.le_trans hlen hn2) hr hF hb (fun H hH hS => hsp H a ns hlen hbits hH hS) fun H e s' => hCX w H s1 e s'
/-- the law's promise where a table stands at Pt -/
def spLawT (K : PySem.W.Frag) (Pt : Addr) : Sp := fun vs H Q _ => ∃ (a : Addr) (ns : List Int), vs = [.ref a] ∧ SqL K H a (ns.map V.int) ∧ ns.length ≤ 63 ∧ GxR.TabG H Pt ∧ ∀ H', Q (.bl true) H'
end NL

namespace NL
open PySem PySem.Spec PyProof.Rows L2
/-! ### marks as a function of positions from -1 on -/
abbrev Mk' := Int → Bool
def bsO (n : Nat) (M : Mk') : List Bool := (List.range n).map (fun i : Nat => M (i : Int)) ++ [M (-1)]
theorem bsO_len (n : Nat) (M : Mk') : (bsO n M).length = n + 1 := by
  unfold bsO
  rw [List.length_append, List.length_map, List.length_range]
  rfl
theorem bsO_nat {n : Nat} {M : Mk'} {k : Nat} (h : k < n) : (bsO n M)[k]? = some (M (k : Int)) := by
  unfold bsO
  rw [List.getElem?_append_left (by rw [List.length_map, List.length_range]; exact h), List.getElem?_map, List.getElem?_range h]
  rfl
theorem bsO_last {n : Nat} {M : Mk'} : (bsO n M)[n]? = some (M (-1)) := by
  unfold bsO
  rw [List.getElem?_append_right (by rw [List.length_map, List.length_range]; exact Nat.le_refl n), List.length_map, List.length_range, Nat.sub_self]
  rfl
theorem bsO_at {n : Nat} {M : Mk'} {p : Int} (h0 : -1 ≤ p) (h1 : p < n) : atI (bsO n M) p = some (M p) := by
  by_cases hp : 0 ≤ p
  · have := atI_nat (bsO_nat (M := M) (show p.toNat < n by omega))
    rw [show ((p.toNat : Nat) : Int) = p by omega] at this
    exact this
  · have : p = -1 := by omega
    subst this
    unfold atI ixN
    rw [if_neg (by decide), if_pos (by rw [bsO_len]; omega), bsO_len, show ((-1 : Int) + ((n + 1 : Nat) : Int)).toNat = n by omega]
    exact bsO_last
theorem atI_mapO {α β : Type} (g : α → β) (xs : List α) (i : Int) : atI (xs.map g) i = (atI xs i).map g := by
  unfold atI
  rw [List.length_map]
  cases ixN xs.length i with
  | none => rfl
  | some j => exact List.getElem?_map
theorem bsO_V {n : Nat} {M : Mk'} {p : Int} (h0 : -1 ≤ p) (h1 : p < n) : atI ((bsO n M).map V.bl) p = some (.bl (M p)) := by
  rw [atI_mapO, bsO_at h0 h1]
  rfl
theorem bsO_mk {n : Nat} {M : Mk'} {p : Int} (h0 : -1 ≤ p) (h1 : p < n) : mkAt (bsO n M) p = M p := by
  unfold mkAt
  rw [bsO_at h0 h1]
  rfl
theorem bsO_ext {n : Nat} {M N : Mk'} (h : ∀ p : Int, -1 ≤ p → p < n → M p = N p) : bsO n M = bsO n N := by
  unfold bsO
  rw [h (-1) (Int.le_refl _) (by omega)]
  congr 1
  exact List.map_congr_left fun k hk => h _ (by omega) (by have := List.mem_range.mp hk; omega)
theorem bsO_set {n : Nat} {M : Mk'} {p : Int} (h0 : 0 ≤ p) (h1 : p < n) : (bsO n M).set p.toNat true = bsO n (fun x => M x || decide (x = p)) := by
  refine List.ext_getElem? fun k => ?_
  rw [List.getElem?_set]
  by_cases hk : p.toNat = k
  · rw [if_pos hk, if_pos (by rw [bsO_len]; omega)]
    rw [bsO_nat (show k < n by omega)]
    have : ((k : Nat) : Int) = p := by omega
    rw [this, decide_eq_true rfl, Bool.or_true]
  · rw [if_neg hk]
    rcases Nat.lt_trichotomy k n with h | h | h
    · rw [bsO_nat h, bsO_nat h, decide_eq_false (by omega), Bool.or_false]
    · subst h
      rw [bsO_last, bsO_last, decide_eq_false (by omega), Bool.or_false]
    · rw [List.getElem?_eq_none (by rw [bsO_len]; omega), List.getElem?_eq_none (by rw [bsO_len]; omega)]
/-! ### round by round -/
def frcM (side : Int) (os : Pos') (M : Mk') : Bool := if side = 0 then os.any (fun o => o.all M) else os.all (fun o => o.any M)
theorem any_congr' {α : Type} {l : List α} {f g : α → Bool} (h : ∀ x ∈ l, f x = g x) : l.any f = l.any g := by
  induction l with
  | nil => rfl
  | cons a r ih =>
    rw [List.any_cons, List.any_cons, h a (List.mem_cons_self ..), ih fun x hx => h x (List.mem_cons_of_mem _ hx)]
theorem all_congr' {α : Type} {l : List α} {f g : α → Bool} (h : ∀ x ∈ l, f x = g x) : l.all f = l.all g := by
  induction l with
  | nil => rfl
  | cons a r ih =>
    rw [List.all_cons, List.all_cons, h a (List.mem_cons_self ..), ih fun x hx => h x (List.mem_cons_of_mem _ hx)]
theorem frcM_ext {side : Int} {os : Pos'} {M N : Mk'} (h : ∀ o ∈ os, ∀ p ∈ o, M p = N p) : frcM side os M = frcM side os N := by
  unfold frcM
  split
  · exact any_congr' fun o ho => all_congr' fun p hp => h o ho p hp
  · exact all_congr' fun o ho => any_congr' fun p hp => h o ho p hp
theorem frcF_bsO {side : Int} {os : Pos'} {n : Nat} {M : Mk'} (h : ∀ o ∈ os, ∀ p ∈ o, -1 ≤ p ∧ p < (n : Int)) : frcF side os (bsO n M) = frcM side os M := by
  unfold frcF frcM
  split
  · exact any_congr' fun o ho => all_congr' fun p hp => bsO_mk (h o ho p hp).1 (h o ho p hp).2
  · exact all_congr' fun o ho => any_congr' fun p hp => bsO_mk (h o ho p hp).1 (h o ho p hp).2
def psO (A : Ar) (p : Int) : Pos' := if 0 ≤ p then (A[p.toNat]?).getD [] else []
theorem psO_at {A : Ar} {p : Int} {os : Pos'} (h0 : 0 ≤ p) (h : A[p.toNat]? = some os) : psO A p = os := by
  unfold psO
  rw [if_pos h0, h]
  rfl
/-- all successors are positions or -1 -/
def InA (A : Ar) (n : Nat) : Prop := ∀ os ∈ A, ∀ o ∈ os, ∀ p ∈ o, -1 ≤ p ∧ p < (n : Int)
theorem psO_in {A : Ar} {n : Nat} (h : InA A n) (p : Int) : ∀ o ∈ psO A p, ∀ x ∈ o, -1 ≤ x ∧ x < (n : Int) := by
  unfold psO
  split
  · cases hq : A[p.toNat]? with
    | none => intro o ho; cases ho
    | some os => exact h os (List.mem_of_getElem? hq)
  · intro o ho; cases ho
def nxM (A : Ar) (side : Int) (am : List Int) (M : Mk') : Mk' := fun p => M p || (decide (p ∈ am) && frcM side (psO A p) M)
def mr (A : Ar) (side : Int) (am : List Int) (M : Mk') : Nat → Mk'
  | 0 => M
  | k + 1 => nxM A side am (mr A side am M k)
section
variable {A : Ar} {side : Int} {am : List Int} {M : Mk'}
theorem mr_up {p : Int} {k : Nat} (h : mr A side am M k p = true) : mr A side am M (k + 1) p = true := by
  show (mr A side am M k p || _) = true
  rw [h, Bool.true_or]
theorem mr_le {p : Int} {j k : Nat} (h : j ≤ k) (e : mr A side am M j p = true) : mr A side am M k p = true := by
  induction h with
  | refl => exact e
  | step _ ih => exact mr_up ih
theorem mr_out {p : Int} (h : p ∉ am) : ∀ k, mr A side am M k p = M p
  | 0 => rfl
  | k + 1 => by
    show (mr A side am M k p || (decide (p ∈ am) && _)) = M p
    rw [decide_eq_false h, Bool.false_and, Bool.or_false, mr_out h k]
theorem mr_stop {n : Nat} (hA : InA A n) {K : Nat} (h : ∀ p, -1 ≤ p → p < (n : Int) → mr A side am M (K + 1) p = mr A side am M K p) : ∀ L, K ≤ L → ∀ p, -1 ≤ p → p < (n : Int) → mr A side am M L p = mr A side am M K p := by
  intro L hL
  induction hL with
  | refl => intro p _ _; rfl
  | step _ ih =>
    rename_i L _
    intro p h0 h1
    show (mr A side am M L p || (decide (p ∈ am) && frcM side (psO A p) (mr A side am M L))) = _
    rw [ih p h0 h1, frcM_ext (N := mr A side am M K) fun o ho x hx => ih x (psO_in hA p o ho x hx).1 (psO_in hA p o ho x hx).2]
    exact h p h0 h1
/-- the round in which a position is marked first -/
def IsRk (f : Nat → Mk') (p : Int) : Option Nat → Prop
  | some r => f r p = true ∧ ∀ j, j < r → f j p = false
  | none => ∀ j, f j p = false
theorem IsRk.uniq {f : Nat → Mk'} {p : Int} : ∀ {a b : Option Nat}, IsRk f p a → IsRk f p b → a = b
  | none, none, _, _ => rfl
  | some r, none, h, g => by
    have := g r
    rw [h.1] at this
    cases this
  | none, some r, g, h => by
    have := g r
    rw [h.1] at this
    cases this
  | some r, some q, h, g => by
    rcases Nat.lt_trichotomy r q with z | z | z
    · have := g.2 r z
      rw [h.1] at this
      cases this
    · rw [z]
    · have := h.2 q z
      rw [g.1] at this
      cases this
/-- how many of the first n positions are marked -/
def cnt (n : Nat) (f : Mk') : Nat := ((List.range n).filter (fun i : Nat => f (i : Int))).length
theorem cnt_le (n : Nat) (f : Mk') : cnt n f ≤ n := by
  have := List.length_filter_le (fun i : Nat => f (i : Int)) (List.range n)
  rw [List.length_range] at this
  exact this
theorem cnt_s (n : Nat) (f : Mk') : cnt (n + 1) f = cnt n f + (if f (n : Int) = true then 1 else 0) := by
  unfold cnt
  rw [List.range_succ, List.filter_append, List.length_append]
  congr 1
  rw [List.filter_cons]
  cases h : f (n : Int) with
  | true => rfl
  | false => rfl
theorem cnt_mono {f g : Mk'} (h : ∀ p, f p = true → g p = true) : ∀ n, cnt n f ≤ cnt n g
  | 0 => Nat.le_refl _
  | n + 1 => by
    have ih := cnt_mono h n
    rw [cnt_s, cnt_s]
    cases hf : f (n : Int) with
    | true => rw [h _ hf]; simp; exact ih
    | false =>
      rw [if_neg Bool.false_ne_true]
      omega
theorem cnt_lt {f g : Mk'} (h : ∀ p, f p = true → g p = true) : ∀ {n k : Nat}, k < n → f (k : Int) = false → g (k : Int) = true → cnt n f < cnt n g
  | 0, k, hk, _, _ => absurd hk (Nat.not_lt_zero k)
  | n + 1, k, hk, hf, hg => by
    rw [cnt_s, cnt_s]
    by_cases hkn : k = n
    · subst hkn
      have := cnt_mono h k
      rw [hf, hg, if_pos rfl, if_neg Bool.false_ne_true]
      omega
    · have ih := cnt_lt h (show k < n by omega) hf hg
      cases hf2 : f (n : Int) with
      | true => rw [h _ hf2]; simp; exact ih
      | false =>
        rw [if_neg Bool.false_ne_true]
        omega
theorem cnt_full {f : Mk'} : ∀ {n : Nat}, cnt n f = n → ∀ k, k < n → f (k : Int) = true
  | 0, _, k, hk => absurd hk (Nat.not_lt_zero k)
  | n + 1, h, k, hk => by
    have h1 := cnt_le n f
    rw [cnt_s] at h
    cases hf : f (n : Int) with
    | true =>
      rw [hf, if_pos rfl] at h
      by_cases hkn : k = n
      · rw [hkn]; exact hf
      · exact cnt_full (show cnt n f = n by omega) k (by omega)
    | false =>
      rw [hf, if_neg Bool.false_ne_true] at h
      omega
/-- where each of the first rounds marks one more, all n positions are marked in round n -/
theorem cnt_rounds {n : Nat} {f : Nat → Mk'} (up : ∀ k p, f k p = true → f (k + 1) p = true) : ∀ K, (∀ k, k < K → ∃ i : Nat, i < n ∧ f k (i : Int) = false ∧ f (k + 1) (i : Int) = true) → K ≤ cnt n (f K)
  | 0, _ => Nat.zero_le _
  | K + 1, h => by
    have ih := cnt_rounds up K fun k hk => h k (by omega)
    obtain ⟨i, hi, h1, h2⟩ := h K (Nat.lt_succ_self K)
    have := cnt_lt (fun p hp => up K p hp) hi h1 h2
    omega
end
end NL

set_option maxHeartbeats 4000000
namespace NL
open PySem PySem.Spec PyProof.Rows L2
/-- an item of a list or a tuple -/
def rIxQ (K : PySem.W.Frag) : R2 := fun x y H Q => ∃ p xs i v, x = .ref p ∧ y = .int i ∧ (SqL K H p xs ∨ SqT K H p xs) ∧ atI xs i = some v ∧ Q v H
theorem ix_seqK {X : Cx} {K : PySem.W.Frag} (h : X.K = K) : IxR X (rIxQ K) := by
  subst h
  intro value slice pins s σ H x y v u Q I rx ry q hs
  obtain ⟨p, xs, i, z, e1, e2, hq | hq, he, q⟩ := q
  · exact ix_list value slice pins s σ H x y v u Q I rx ry ⟨p, xs, i, z, e1, e2, hq, he, q⟩ hs
  · exact ix_tup value slice pins s σ H x y v u Q I rx ry ⟨p, xs, i, z, e1, e2, hq, he, q⟩ hs
/-- an arena, a tuple or a list of positions -/
def ArQ (H : Hp) (A : Ar) (v : V) : Prop := ∃ b xs, v = .ref b ∧ (H b = some (.lst xs) ∨ H b = some (.tup xs)) ∧ Each (PosIn H) A xs
theorem ArQ.of {H : Hp} {A : Ar} {v : V} (h : ArIn H A v) : ArQ H A v := by
  obtain ⟨b, xs, e, q, r⟩ := h
  exact ⟨b, xs, e, .inr q, r⟩
theorem ArQ.sm {P : Addr} {H H' : Hp} {A : Ar} {v : V} (s : Sm P H H') (h : ArQ H A v) : ArQ H' A v := by
  obtain ⟨b, xs, e, q, r⟩ := h
  refine ⟨b, xs, e, ?_, r.mono fun a x => PosIn.tp s.tp⟩
  rcases q with q | q
  · exact .inl (s.lst q)
  · exact .inr (s.tup q)
theorem seqQ {K : PySem.W.Frag} {H : Hp} {b : Addr} {xs : List V} (h : H b = some (.lst xs) ∨ H b = some (.tup xs)) : SqL K H b xs ∨ SqT K H b xs := by
  rcases h with h | h
  · exact .inl (sqd h)
  · exact .inr (sqt h)
/-- what the dict of steps says after k rounds -/
def DkR (f : Nat → Mk') (k : Nat) (kvs : List (Key × V)) : Prop := ∀ p : Int, ((f k p = false ∨ f 0 p = true) → valV kvs (Sum.inl p : Key) = none) ∧ (f k p = true → f 0 p = false → ∃ r, r ≤ k ∧ valV kvs (Sum.inl p : Key) = some (.int (r : Nat)) ∧ f r p = true ∧ ∀ j, j < r → f j p = false)
/-- .. of a position in the end -/
theorem DkR.rk {A : Ar} {side : Int} {am : List Int} {M : Mk'} {n K : Nat} {kvs : List (Key × V)} (h : DkR (mr A side am M) K kvs) (hst : ∀ L, K ≤ L → ∀ p, -1 ≤ p → p < (n : Int) → mr A side am M L p = mr A side am M K p) {p : Int} (h0 : -1 ≤ p) (h1 : p < n) :
    ∃ ro : Option Nat, IsRk (mr A side am M) p ro ∧ (M p = true → ro = some 0) ∧ (M p = false → valV kvs (Sum.inl p : Key) = ro.map fun r : Nat => V.int (r : Int)) := by
  by_cases hM : M p = true
  · exact ⟨some 0, ⟨hM, fun j hj => absurd hj (Nat.not_lt_zero j)⟩, fun _ => rfl, fun e => by rw [hM] at e; cases e⟩
  · have hM' : M p = false := by simpa using hM
    by_cases hK : mr A side am M K p = true
    · obtain ⟨r, hr, hv, h2, h3⟩ := (h p).2 hK hM'
      exact ⟨some r, ⟨h2, h3⟩, fun e => absurd e hM, fun _ => hv⟩
    · have hK' : mr A side am M K p = false := by simpa using hK
      refine ⟨none, fun j => ?_, fun e => absurd e hM, fun _ => (h p).1 (.inl hK')⟩
      rcases Nat.le_total K j with z | z
      · rw [hst j z p h0 h1]
        exact hK'
      · cases hj : mr A side am M j p with
        | false => rfl
        | true => exact absurd (mr_le z hj) hK
theorem putK_len' {κ : Type} [DecidableEq κ] (c : List (κ × V)) (k : κ) (x : V) : (putK c k x).length ≤ c.length + 1 := by
  unfold putK
  split
  · rw [List.length_map]
    exact Nat.le_succ _
  · rw [List.length_append]
    exact Nat.le_refl _
theorem dp_intsG {K : PySem.W.Frag} {H : Hp} : ∀ l : List Int, DpAll K H (l.map V.int) (l.map PyData.int)
  | [] => .nil
  | a :: r => .cons (.int a) (dp_intsG r)
theorem lay_intsG : ∀ l : List Int, PyData.canLayAll0 (l.map PyData.int) = true ∧ PyData.depthAll (l.map PyData.int) = 0
  | [] => ⟨rfl, rfl⟩
  | a :: r => by
    obtain ⟨h1, h2⟩ := lay_intsG r
    refine ⟨?_, ?_⟩
    · show (true && PyData.canLayAll0 (r.map PyData.int)) = true
      rw [h1]
      rfl
    · show max 0 (PyData.depthAll (r.map PyData.int)) = 0
      rw [h2]
      rfl
theorem shaped_lstG (l : List Int) : SeqAt.shaped (.list (l.map PyData.int)) = true := by
  obtain ⟨h1, h2⟩ := lay_intsG l
  show (PyData.canLayAll0 (l.map PyData.int) && decide (PyData.depthAll (l.map PyData.int) + 1 ≤ 64)) = true
  rw [h1, h2]
  rfl
theorem foldK_take {α : Type} {l : List α} {j : Nat} {x : α} (h : l[j]? = some x) (y : α) : y ∈ l.take (j + 1) ↔ y ∈ l.take j ∨ y = x := by
  rw [List.take_add_one, h, List.mem_append]
  simp
section
variable {P : Program} {w : World} {K : PySem.W.Frag} {mg : Str → Option Value} {base : Heap}
def spSteps (K : PySem.W.Frag) (Pt : Addr) : Sp := fun vs H Q _ => ∃ (v : V) (A : Ar) (side : Int) (ml al : Addr) (M : Mk') (am : List Int), vs = [v, .int side, .ref ml, .ref al] ∧ ArQ H A v ∧ A.length ≤ 500 ∧ InA A A.length ∧ H ml = some (.lst ((bsO A.length M).map V.bl)) ∧
  H al = some (.lst (am.map V.int)) ∧ am.length ≤ 500 ∧ (∀ p ∈ am, 0 ≤ p ∧ p < (A.length : Int)) ∧ GxR.TabG H Pt ∧
  ∀ D kvs k H', Sm Pt H H' → H D = none → H' D = some (.dK kvs) → DkR (mr A side am M) k kvs → (∀ L, k ≤ L → ∀ p, -1 ≤ p → p < (A.length : Int) → mr A side am M L p = mr A side am M k p) → Q (.ref D) H'
theorem ok_steps_to (T : Txt K mg) {c Pt : Addr} (TB : GxR.TabB base mg c Pt) (hc : T.dforces.code = .ref c) : FnOk P w K mg base CX0 3 T.asteps_to T.dsteps_to Psteps_to (spSteps K Pt) := by
  have Gforces := ok_forces (P := P) (w := w) T TB hc
  refine T.Fsteps_to.ok scsteps_to (fun vs H Q E h => ?_) (fun cdv A outer s H vs Q E hr h => ?_)
  · obtain ⟨v, A, side, ml, al, M, am, rfl, _⟩ := h
    rfl
  obtain ⟨v, A0, side, ml, al, M, am, rfl, hA, hn, hin, hm, ha, hal, hap, hT, q⟩ := h
  generalize hnn : A0.length = n at *
  refine ⟨_, (pss_cons (ps_set (i := 4) scsteps_to.nd rfl (Or.inr rfl) (pe_callTy call_list_of (by rfl) T.z_list (by decide +kernel) (pa_cons (pv 2) pa_nil)))
    (pss_cons (ps_set (i := 5) scsteps_to.nd rfl (Or.inl rfl) pe_dnewK)
    (pss_cons (ps_set (i := 6) scsteps_to.nd rfl (Or.inl rfl) pe_int)
    (pss_cons (ps_set (i := 7) scsteps_to.nd rfl (Or.inl rfl) pe_bl)
    (pss_cons (ps_while PassesOwn.never (pt_val (pv 7))
    (pss_cons (ps_aug (i := 6) scsteps_to.nd rfl (Or.inl rfl) pe_int ip_add)
    (pss_cons (ps_setLc (i := 8) (own := [("at", 9)]) (g := (gName 9)) (tt := _) rfl scsteps_to.nd rfl rfl (sw_true rfl rfl rfl (by decide +kernel)) (pi_list (pv 3)) (blkOk_by (N := Nsteps_to) (sc := defScope ssteps_to) (by decide +kernel)) (fun _ _ _ _ _ => (pg_name (i := 9) scsteps_to.nd rfl (Or.inl rfl))) (fun _ _ _ _ _ => (pts_one (PW.pt (pw_and (pt_not (pt_val (pe_ix (ix_listK (K := K) rfl) (pv 4) (pv 9) (fun _ _ => rfl)))) (pw_and1 (pt_val (pe_call Gforces (hr.mono (by omega)) (by rfl) T.mforces T.Fforces.kp T.bforces .nil pass0 (pa_cons (pv 1) (pa_cons (pe_ix (ix_seqK (K := K) rfl) (pv 0) (pv 9) (fun _ _ => rfl)) (pa_cons (pv 4) pa_nil)))))))))) (fun _ _ _ _ _ => (pv 9)))
    (pss_cons (ps_for  PassesOwn.never rfl (pi_list (pv 8)) (pg_name (i := 9) scsteps_to.nd rfl (Or.inl rfl))
    (pss_cons (ps_dput (hu_of hr) (pv 5) (pv 9) (pv 6) rfl)
    (pss_one (ps_asg pe_bl (pg_sub (pv 4) (pv 9) set_list)))))
    (pss_one (ps_set (i := 7) scsteps_to.nd rfl (Or.inl rfl) (pe_cmpR (op_neD hr.units) (pv 8) (pe_lst pa_nil) (nomark _))))))))
    (pss_one (ps_ret (pv 5)))))))), ?_⟩
  refine ⟨_, rfl, ml, _, rfl, .inl (sqd hm), fun rl hrl => ?_⟩
  obtain ⟨H1, e1, s1, k1⟩ := newH hrl (.lst ((bsO n M).map V.bl))
  rw [e1]
  refine fun D hD => ?_
  obtain ⟨H2, e2, s2, k2⟩ := newH hD (.dK [])
  rw [e2]
  have hnrl : rl ≠ D := fun z => by
    rw [z, hD] at k1
    cases k1
  have hDH : H D = none := s1.free hD
  have hrH : H rl = none := hrl
  have g0 := s1.trans s2
  have rD0 : DkR (mr A0 side am M) 0 [] := fun p => ⟨fun _ => rfl, fun h1 h2 => by
    rw [h1] at h2
    cases h2⟩
  have up : ∀ k p, mr A0 side am M k p = true → mr A0 side am M (k + 1) p = true := fun k p e => mr_up e
  -- round by round
  refine ⟨fun m σ H' => ∃ (k : Nat) (g : Bool) (kvs : List (Key × V)) (y8 y9 : Option V), σ = [some v, some (.int side), some (.ref ml), some (.ref al), some (.ref rl), some (.ref D), some (.int (k : Nat)), some (.bl g), y8, y9] ∧ Sm Pt H H' ∧ H' rl = some (.lst ((bsO n (mr A0 side am M k)).map V.bl)) ∧ H' D = some (.dK kvs) ∧ DkR (mr A0 side am M) k kvs ∧ kvs.length ≤ k * 500 ∧
    (g = true → k ≤ cnt n (mr A0 side am M k)) ∧ (g = false → ∃ j, k = j + 1 ∧ ∀ p, -1 ≤ p → p < (n : Int) → mr A0 side am M (j + 1) p = mr A0 side am M j p) ∧ m = if g = true then n - cnt n (mr A0 side am M k) + 1 else 0, ⟨_, 0, true, [], _, _, rfl, .of g0, s2 _ _ k1, k2, rD0, Nat.zero_le _, fun _ => Nat.zero_le _, fun e => (by cases e), rfl⟩, ?_⟩
  rintro m σ H3 ⟨k, g, kvs, y8, y9, rfl, s3, kr3, kD3, hdk, hkl, hg1, hg2, hmm⟩
  refine ⟨_, rfl, g, rfl, ?_⟩
  cases g with
  | false =>
    refine ifF rfl ?_
    obtain ⟨j, rfl, hst⟩ := hg2 rfl
    have hst2 := mr_stop hin hst
    refine ⟨_, rfl, q D kvs (j + 1) H3 s3 hDH kD3 hdk fun L hL p h0 h1 => ?_⟩
    rw [hst2 L (by omega) p h0 h1, hst p h0 h1]
  | true =>
  refine ifT rfl ?_
  have hkc := hg1 rfl
  have hcn := cnt_le n (mr A0 side am M k)
  generalize hf : mr A0 side am M k = f at *
  have hfs : mr A0 side am M (k + 1) = nxM A0 side am f := by rw [← hf]; rfl
  refine ⟨fun σ H' => ∃ (fnd : List Int) (kvs : List (Key × V)) (y8 y9 : Option V), σ = [some v, some (.int side), some (.ref ml), some (.ref al), some (.ref rl), some (.ref D), some (.int ((k + 1 : Nat) : Int)), some (.bl (!fnd.isEmpty)), y8, y9] ∧ Sm Pt H H' ∧ fnd = am.filter (fun p => !f p && frcM side (psO A0 p) f) ∧ H' rl = some (.lst ((bsO n (nxM A0 side am f)).map V.bl)) ∧ H' D = some (.dK kvs) ∧ DkR (mr A0 side am M) (k + 1) kvs ∧ kvs.length ≤ (k + 1) * 500, ?_, ?_⟩
  · rintro σ' H' ⟨fnd, kvs', z8, z9, rfl, t3, hfnd, f1, f2, hdk', hkl'⟩
    rw [← hfs] at f1
    have hin1 : ∀ p, p ∈ fnd → p ∈ am ∧ f p = false ∧ frcM side (psO A0 p) f = true := fun p hp => by
      rw [hfnd, List.mem_filter] at hp
      simpa using hp
    have gain : fnd.isEmpty = false → cnt n f < cnt n (mr A0 side am M (k + 1)) := fun e => by
      obtain ⟨p, hp⟩ : ∃ p, p ∈ fnd := by
        cases hc2 : fnd with
        | nil => rw [hc2] at e; cases e
        | cons a r => exact ⟨a, List.mem_cons_self ..⟩
      obtain ⟨q1, q2, q3⟩ := hin1 p hp
      obtain ⟨p0, p1⟩ := hap p q1
      refine cnt_lt (k := p.toNat) (fun x hx => by rw [hfs]; show (f x || _) = true; rw [hx, Bool.true_or]) (by omega) ?_ ?_
      · rw [show ((p.toNat : Nat) : Int) = p by omega]
        exact q2
      · rw [show ((p.toNat : Nat) : Int) = p by omega, hfs]
        show (f p || (decide (p ∈ am) && frcM side (psO A0 p) f)) = true
        rw [decide_eq_true q1, q3, Bool.true_and, Bool.or_true]
    have hc1 := cnt_le n (mr A0 side am M (k + 1))
    refine ⟨_, ?_, k + 1, !fnd.isEmpty, kvs', z8, z9, rfl, t3, f1, f2, hdk', hkl', fun e => ?_, fun e => ?_, rfl⟩
    · rw [hmm, if_pos rfl]
      cases he : fnd.isEmpty with
      | true =>
        rw [Bool.not_true, if_neg Bool.false_ne_true]
        omega
      | false =>
        have := gain he
        rw [Bool.not_false, if_pos rfl]
        omega
    · have := gain (by simpa using e)
      omega
    · refine ⟨k, rfl, fun p h0 h1 => ?_⟩
      have hnil : fnd = [] := by
        have : fnd.isEmpty = true := by simpa using e
        simpa using this
      rw [hfs, hf]
      show (f p || (decide (p ∈ am) && frcM side (psO A0 p) f)) = f p
      cases hfp : f p with
      | true => rfl
      | false =>
        rw [Bool.false_or]
        cases hd : (decide (p ∈ am) && frcM side (psO A0 p) f) with
        | false => rfl
        | true =>
          rw [Bool.and_eq_true] at hd
          have : p ∈ fnd := by
            rw [hfnd, List.mem_filter]
            refine ⟨of_decide_eq_true hd.1, ?_⟩
            simp [hfp, hd.2]
          rw [hnil] at this
          cases this
  refine ⟨_, rfl, _, _, rfl, rfl, ?_⟩
  refine ⟨_, rfl, al, rfl, ⟨_, sqd (s3.lst ha)⟩, fun fl hfl => ?_⟩
  have hT3 := s3.tb hT
  have hflP : fl ≠ Pt := TabG.ne0 hT3 hfl
  have hflr : fl ≠ rl := fun z => by
    rw [z, kr3] at hfl
    cases hfl
  have hflD : fl ≠ D := fun z => by
    rw [z, kD3] at hfl
    cases hfl
  have hA3 := hA.sm s3
  generalize ht : (fun p => !f p && frcM side (psO A0 p) f) = t
  refine lc_list (K := K) (a := al) (xs := am.map V.int) (fun (j : Nat) (H' : Hp) => Sm Pt H3 H' ∧ H' fl = some (.lst (((am.take j).filter t).map V.int))) ?_ ?_ ?_ ?_
  · exact ⟨.of (same_new hfl _), upd_same⟩
  · rintro j H' _ ⟨s4, _⟩
    exact sqd (s4.lst (s3.lst ha))
  · rintro j x H4 hx ⟨s4, k4⟩
    rw [List.getElem?_map] at hx
    obtain ⟨p, hp, rfl⟩ := Option.map_eq_some_iff.mp hx
    obtain ⟨p0, p1⟩ := hap p (List.mem_of_getElem? hp)
    have hnext : (am.take (j + 1)).filter t = (am.take j).filter t ++ (if t p = true then [p] else []) := by
      rw [List.take_add_one, hp, List.filter_append]
      congr 1
      rw [Option.toList_some, List.filter_cons]
      cases t p <;> rfl
    have hlen : ((am.take j).filter t).length ≤ 500 := by
      have h1 := List.length_filter_le t (am.take j)
      rw [List.length_take] at h1
      omega
    refine ⟨rfl, ?_⟩
    refine ⟨_, rfl, _, rfl, rl, _, _, _, rfl, rfl, sqd (s4.lst kr3), bsO_V (by omega) p1, _, rfl, ?_⟩
    cases hfp : f p with
    | true =>
      refine ifF rfl (iteF ?_)
      refine ⟨s4, ?_⟩
      rw [hnext, show t p = false by rw [← ht]; simp [hfp], if_neg Bool.false_ne_true, List.append_nil]
      exact k4
    | false =>
      refine ifT rfl ?_
      obtain ⟨b0, xs, rfl, hb0, hxs⟩ := hA3.sm s4
      obtain ⟨os, x, ho, hat, hpos⟩ := hxs.atI p0 (by rw [hnn]; exact p1)
      have hps := psO_at p0 ho
      have hios := hin os (List.mem_of_getElem? ho)
      refine ⟨_, rfl, _, rfl, _, rfl, b0, xs, p, x, rfl, rfl, seqQ hb0, hat, _, rfl, side, x, rl, os, bsO n f, rfl, hpos, s4.lst kr3, s4.tb hT3, fun o ho2 i hi => ?_, fun H5 s5 => ⟨_, rfl, ?_⟩⟩
      · rw [bsO_at (hios o ho2 i hi).1 (hios o ho2 i hi).2]
        rfl
      · rw [frcF_bsO hios]
        have htp : t p = frcM side os f := by rw [← ht]; simp [hfp, hps]
        cases hfr : frcM side os f with
        | false =>
          refine iteF ⟨s4.trans s5, ?_⟩
          rw [hnext, htp, hfr, if_neg Bool.false_ne_true, List.append_nil]
          exact s5.lst k4
        | true =>
          refine iteT ⟨_, rfl, _, s5.lst k4, big' (by rw [List.length_map]; omega), (s4.trans s5).put hfl hflP, ?_⟩
          rw [upd_same, hnext, htp, hfr, if_pos rfl, List.map_append]
          rfl
  · rintro H4 ⟨s4, k4⟩
    rw [List.length_map, List.take_length] at k4
    have hfl500 : (am.filter t).length ≤ 500 := Nat.le_trans (List.length_filter_le _ _) hal
    have hmem : ∀ p, p ∈ am.filter t → 0 ≤ p ∧ p < (n : Int) := fun p h => hap p (List.mem_filter.mp h).1
    generalize hfnd : am.filter t = fnd at *
    refine ⟨_, rfl, fl, rfl, ⟨_, sqd k4⟩, ?_⟩
    refine for_list (K := K) (a := fl) (xs := fnd.map V.int) (fun (j : Nat) (σ : L2.St) (H' : Hp) => ∃ (kvs' : List (Key × V)) (y9 : Option V), σ = [some v, some (.int side), some (.ref ml), some (.ref al), some (.ref rl), some (.ref D), some (.int (((k : Nat) : Int) + 1)), some (.bl true), some (.ref fl), y9] ∧ Sm Pt H H' ∧ H' fl = some (.lst (fnd.map V.int)) ∧
      H' rl = some (.lst ((bsO n (fun x => f x || decide (x ∈ fnd.take j))).map V.bl)) ∧ H' D = some (.dK kvs') ∧ (∀ p : Int, valV kvs' (Sum.inl p : Key) = if p ∈ fnd.take j then some (.int (((k : Nat) : Int) + 1)) else valV kvs (Sum.inl p : Key)) ∧ kvs'.length ≤ k * 500 + j) ?_ ?_ ?_ ?_
    · refine ⟨kvs, _, rfl, s3.trans s4, k4, ?_, s4.dK kD3, fun p => ?_, hkl⟩
      · rw [s4.lst kr3]
        simp
      · rw [List.take_zero, if_neg (by simp)]
    · rintro j σ H' _ ⟨kvs', y9, rfl, _, k5, _⟩
      exact sqd k5
    · rintro j x σ H5 hx ⟨kvs', y9, rfl, s5, k5, kr5, kD5, hv5, hl5⟩
      rw [List.getElem?_map] at hx
      obtain ⟨p, hp, rfl⟩ := Option.map_eq_some_iff.mp hx
      obtain ⟨p0, p1⟩ := hmem p (List.mem_of_getElem? hp)
      have hj := (List.getElem?_eq_some_iff.mp hp).1
      refine ⟨_, rfl, _, rfl, _, rfl, D, _, rfl, DPut.k (k := Sum.inl p) kD5 (big' (by have := cnt_le n f; omega)), ?_⟩
      have hDP : D ≠ Pt := TabG.ne0 hT hDH
      have hrP : rl ≠ Pt := TabG.ne0 hT hrH
      refine ⟨_, rfl, _, rfl, rl, _, _, _, rfl, rfl, by rw [upd_ne hnrl]; exact kr5, ixN_in p0 (by rw [List.length_map, bsO_len]; omega), ?_⟩
      refine ⟨putK kvs' (Sum.inl p : Key) (.int (((k : Nat) : Int) + 1)), _, rfl, (s5.put hDH hDP).put hrH hrP, ?_, ?_, ?_, fun y => ?_, ?_⟩
      · rw [upd_ne hflr, upd_ne hflD]
        exact k5
      · rw [upd_same, ← List.map_set, bsO_set p0 p1]
        congr 3
        refine bsO_ext fun x _ _ => ?_
        rw [Bool.or_assoc]
        congr 1
        rw [← Bool.decide_or]
        exact decide_eq_decide.mpr (foldK_take hp x).symm
      · rw [upd_ne (Ne.symm hnrl), upd_same]
      · rw [valV_put, hv5]
        by_cases hy : y = p
        · rw [if_pos (by rw [hy]), if_pos ((foldK_take hp y).mpr (.inr hy))]
        · rw [if_neg (fun e => hy (Sum.inl.inj e))]
          by_cases hy2 : y ∈ fnd.take j
          · rw [if_pos hy2, if_pos ((foldK_take hp y).mpr (.inl hy2))]
          · rw [if_neg hy2, if_neg (fun e => ((foldK_take hp y).mp e).elim hy2 hy)]
      · have := putK_len' kvs' (Sum.inl p : Key) (V.int (((k : Nat) : Int) + 1))
        omega
    · rintro σ H5 ⟨kvs', y9, rfl, s5, k5, kr5, kD5, hv5, hl5⟩
      rw [List.length_map, List.take_length] at kr5
      rw [List.length_map] at hv5 hl5
      simp only [List.take_length] at hv5
      have hnx : bsO n (fun x => f x || decide (x ∈ fnd)) = bsO n (nxM A0 side am f) := bsO_ext fun x _ _ => by
        show _ = (f x || (decide (x ∈ am) && frcM side (psO A0 x) f))
        rw [← hfnd, ← ht]
        cases hfx : f x with
        | true => rfl
        | false =>
          rw [Bool.false_or, Bool.false_or, ← Bool.decide_coe (frcM side (psO A0 x) f), ← Bool.decide_and]
          refine decide_eq_decide.mpr ?_
          rw [List.mem_filter, hfx]
          simp
      rw [hnx] at kr5
      refine ⟨_, rfl, Nat.zero_le _, fun e hel => ?_⟩
      have heD : e ≠ D := fun z => by
        rw [z, kD5] at hel
        cases hel
      have her : e ≠ rl := fun z => by
        rw [z, kr5] at hel
        cases hel
      have hef : fl ≠ e := fun z => by
        rw [← z, k5] at hel
        cases hel
      refine ⟨.list (fnd.map PyData.int), .list (([] : List Int).map PyData.int), .lst (sqd (by rw [upd_ne hef]; exact k5)) (dp_intsG _), .lst (sqd upd_same) .nil, shaped_lstG _, shaped_lstG _, ?_⟩
      refine ⟨fnd, kvs', some (.ref fl), y9, ?_, s5.trans (.of (same_new hel _)), rfl, by rw [upd_ne (Ne.symm her)]; exact kr5, by rw [upd_ne (Ne.symm heD)]; exact kD5, ?_, by omega⟩
      · cases fnd with
        | nil => rfl
        | cons a r => rfl
      · have hmk : ∀ p, mr A0 side am M k p = f p := fun p => by rw [hf]
        have hin1 : ∀ p, p ∈ fnd → f p = false ∧ mr A0 side am M (k + 1) p = true := fun p hp => by
          rw [← hfnd, List.mem_filter, ← ht] at hp
          obtain ⟨h1, h2⟩ := hp
          rw [Bool.and_eq_true] at h2
          refine ⟨by simpa using h2.1, ?_⟩
          rw [hfs]
          show (f p || (decide (p ∈ am) && frcM side (psO A0 p) f)) = true
          rw [decide_eq_true h1, h2.2, Bool.true_and, Bool.or_true]
        have hin2 : ∀ p, f p = false → mr A0 side am M (k + 1) p = true → p ∈ fnd := fun p h1 h2 => by
          rw [hfs] at h2
          have h3 : (f p || (decide (p ∈ am) && frcM side (psO A0 p) f)) = true := h2
          rw [h1, Bool.false_or, Bool.and_eq_true] at h3
          rw [← hfnd, List.mem_filter, ← ht]
          exact ⟨of_decide_eq_true h3.1, by simp [h1, h3.2]⟩
        intro p
        rw [hv5 p]
        refine ⟨fun h => ?_, fun h1 h2 => ?_⟩
        · have hno : p ∉ fnd := fun hp => by
            obtain ⟨g1, g2⟩ := hin1 p hp
            rcases h with h | h
            · rw [h] at g2
              cases g2
            · have : mr A0 side am M k p = true := mr_le (Nat.zero_le k) h
              rw [hmk, g1] at this
              cases this
          rw [if_neg hno]
          refine (hdk p).1 ?_
          rcases h with h | h
          · left
            cases hk2 : mr A0 side am M k p with
            | false => rfl
            | true =>
              rw [mr_up hk2] at h
              cases h
          · exact .inr h
        · by_cases hp : p ∈ fnd
          · rw [if_pos hp]
            refine ⟨k + 1, Nat.le_refl _, rfl, h1, fun j hj => ?_⟩
            cases hj2 : mr A0 side am M j p with
            | false => rfl
            | true =>
              have := mr_le (show j ≤ k by omega) hj2
              rw [hmk, (hin1 p hp).1] at this
              cases this
          · rw [if_neg hp]
            have hk2 : mr A0 side am M k p = true := by
              rw [hmk]
              cases hfp : f p with
              | true => rfl
              | false => exact absurd (hin2 p hfp h1) hp
            obtain ⟨r, hr1, hr2, hr3, hr4⟩ := (hdk p).2 hk2 h2
            exact ⟨r, by omega, hr2, hr3, hr4⟩
end
end NL

set_option maxHeartbeats 4000000
namespace NL
open PySem PySem.Spec PyProof.Rows L2
theorem rgA_ints (a b : Int) : rgV a b = ((List.range (b - a).toNat).map fun i : Nat => a + (i : Int)).map V.int := by
  unfold rgV
  rw [List.map_map] <;> rfl
/-- the first n positions -/
def psA (n : Nat) : List Int := (List.range n).map fun i : Nat => (i : Int)
theorem psA_mem {n : Nat} {p : Int} : p ∈ psA n ↔ 0 ≤ p ∧ p < (n : Int) := by
  unfold psA
  rw [List.mem_map]
  constructor
  · rintro ⟨i, hi, rfl⟩
    have := List.mem_range.mp hi
    omega
  · rintro ⟨h0, h1⟩
    exact ⟨p.toNat, List.mem_range.mpr (by omega), by omega⟩
theorem psA_len (n : Nat) : (psA n).length = n := by
  unfold psA
  rw [List.length_map, List.length_range]
theorem op_in_seqK {X : Cx} {K : PySem.W.Frag} (h : X.K = K) : OpR X (compareOp .In) (rIn K false) := by
  subst h
  exact op_in_seq
theorem op_notIn_seqK {X : Cx} {K : PySem.W.Frag} (h : X.K = K) : OpR X (compareOp .NotIn) (rIn K true) := by
  subst h
  exact op_notIn_seq
theorem SqT.same {K : PySem.W.Frag} {H H' : Hp} {a : Addr} {xs : List V} (s : Same H H') (h : SqT K H a xs) : SqT K H' a xs := (Sm.of (P := 0) s).seqT h
def rkV : Option Nat → V
  | none => .non
  | some r => .int (r : Nat)
/-- marks of the positions, and of being out: o -/
def mkO (o : Bool) (B : Int → Bool) : Mk' := fun p => if p = -1 then o else B p
theorem bsO_mkO (n : Nat) (o : Bool) (B : Int → Bool) : bsO n (mkO o B) = ((List.range n).map fun i : Nat => B (i : Int)) ++ [o] := by
  unfold bsO
  have h : ∀ k : Nat, mkO o B (k : Int) = B (k : Int) := fun k => if_neg (by omega)
  rw [show mkO o B (-1) = o from if_pos rfl, show (fun i : Nat => mkO o B (i : Int)) = fun i : Nat => B (i : Int) from funext h]
/-- the ranks rs are those of the marks M -/
def RksAt (A : Ar) (side : Int) (M : Mk') (rs : List V) : Prop := rs.length = A.length ∧ ∀ (k : Nat), k < A.length → ∃ ro, IsRk (mr A side (psA A.length) M) (k : Int) ro ∧ rs[k]? = some (rkV ro)
section
variable {P : Program} {w : World} {K : PySem.W.Frag} {mg : Str → Option Value} {base : Heap}
def spRanks (K : PySem.W.Frag) (Pt : Addr) : Sp := fun vs H Q _ => ∃ (v : V) (A : Ar) (side : Int) (ml : Addr) (B : Int → Bool), vs = [v, .int side, .ref ml] ∧ ArQ H A v ∧ A.length ≤ 500 ∧ InA A A.length ∧ H ml = some (.lst (((List.range A.length).map fun i : Nat => B (i : Int)).map V.bl)) ∧ GxR.TabG H Pt ∧
  ∀ p rs H', Sm Pt H H' → H p = none → H' p = some (.lst rs) → RksAt A side (mkO (decide (side = 1)) B) rs → Q (.ref p) H'
theorem ok_ranks_to (T : Txt K mg) {c Pt : Addr} (TB : GxR.TabB base mg c Pt) (hc : T.dforces.code = .ref c) : FnOk P w K mg base CX0 4 T.a_ranks_to T.d_ranks_to P_ranks_to (spRanks K Pt) := by
  have Gsteps_to := ok_steps_to (P := P) (w := w) T TB hc
  refine T.F_ranks_to.ok sc_ranks_to (fun vs H Q E h => ?_) (fun cdv A outer s H vs Q E hr h => ?_)
  · obtain ⟨v, A, side, ml, B, rfl, _⟩ := h
    rfl
  obtain ⟨v, A0, side, ml, B, rfl, hA, hn, hin, hm, hT, q⟩ := h
  obtain ⟨b0, xs, rfl, hb0, hxs⟩ := id hA
  have hxl := hxs.1
  refine ⟨_, (pss_cons (ps_set (i := 3) sc_ranks_to.nd rfl (Or.inr rfl) (pe_call Gsteps_to (hr.mono (by omega)) (by rfl) T.msteps_to T.Fsteps_to.kp T.bsteps_to .nil pass0 (pa_cons (pv 0) (pa_cons (pv 1) (pa_cons (pe_op op_cat (pv 2) (pe_lst (pa_cons (pe_cmpR op_eq (pv 1) (pe_glob rfl T.g_DISTURBANCE T.r_DISTURBANCE) (nomark _)) pa_nil))) (pa_cons (pe_listRg rfl (by rfl) T.z_list (prg_1 (by rfl) T.z_range (pe_callB call_len_seq (by rfl) T.z_len PySem.boot_len (pa_cons (pv 0) pa_nil)))) pa_nil))))))
    (pss_one (ps_ret (pe_lc (own := [("at", 4), ("mark", 5)]) (g := (gTup K 2 (gCons (gName 4) (gCons (gName 5) gNil)))) (tt := tYes) rfl sc_ranks_to.nd (pi_enum (by rfl) T.z_enumerate (pa_cons (pv 2) pa_nil)) (blkOk_by (N := N_ranks_to) (sc := defScope s_ranks_to) (by decide +kernel)) (fun _ _ _ _ _ => (pg_tup rfl (pgs_cons (pg_name (i := 4) sc_ranks_to.nd rfl (Or.inl rfl)) (pgs_cons (pg_name (i := 5) sc_ranks_to.nd rfl (Or.inl rfl)) pgs_nil)))) (fun _ _ _ _ _ => pts_nil) (fun _ _ _ _ _ => (pe_ifExp (pt_val (pv 5)) pe_int (pe_dget1 (hu_of hr) (pv 3) (pv 4) ⟨rfl, rfl, rfl, rfl⟩))))))), ?_⟩
  refine ⟨_, rfl, _, rfl, _, rfl, _, rfl, rfl, Nat.le_of_ble_eq_true rfl, fun l hl => ?_⟩
  obtain ⟨H1, e1, s1, k1⟩ := newH hl (.lst [V.bl (decide (V.int side = V.int 1))])
  rw [e1]
  refine ⟨ml, l, _, _, rfl, rfl, s1 _ _ hm, k1, big (by rw [List.length_map, List.length_map, List.length_range, List.length_singleton]; omega), fun m2 hm2 => ?_⟩
  obtain ⟨H2, e2, s2, k2⟩ := newH hm2 (.lst (((List.range A0.length).map fun i : Nat => B (i : Int)).map V.bl ++ [V.bl (decide (V.int side = V.int 1))]))
  rw [e2]
  have s12 := s1.trans s2
  have hb2 : H2 b0 = some (.lst xs) ∨ H2 b0 = some (.tup xs) := hb0.elim (fun h => .inl (s12 _ _ h)) (fun h => .inr (s12 _ _ h))
  refine ⟨_, rfl, b0, _, rfl, seqQ hb2, _, rfl, ⟨by omega, by omega, by omega, by omega, by omega⟩, fun al hal => ?_⟩
  obtain ⟨H3, e3, s3, k3⟩ := newH hal (.lst (rgV 0 ((xs.length : Nat) : Int)))
  rw [e3]
  have hal2 : rgV 0 ((xs.length : Nat) : Int) = (psA A0.length).map V.int := by
    rw [rgA_ints, hxl, show (((A0.length : Nat) : Int) - 0).toNat = A0.length by omega]
    unfold psA
    rw [show (fun i : Nat => (0 : Int) + (i : Int)) = fun i : Nat => (i : Int) from funext fun i => Int.zero_add _]
  rw [hal2] at k3
  have s13 := s12.trans s3
  have hmarks : ((List.range A0.length).map fun i : Nat => B (i : Int)).map V.bl ++ [V.bl (decide (V.int side = V.int 1))] = (bsO A0.length (mkO (decide (side = 1)) B)).map V.bl := by
    rw [bsO_mkO, List.map_append, dec_int, Bool.beq_eq_decide_eq]
    rfl
  refine ⟨_, A0, side, m2, al, mkO (decide (side = 1)) B, psA A0.length, rfl, hA.sm (Sm.of (P := Pt) s13), hn, hin, by rw [s3 _ _ k2, hmarks], k3, by rw [psA_len]; exact hn, fun p hp => psA_mem.mp hp, TabG.same hT s13, fun D kvs k H4 s4 hD kD hdk hst => ?_⟩
  have sA : Sm Pt H H4 := (Sm.of s13).trans s4
  refine ⟨_, rfl, ml, _, rfl, sqd (sA.lst hm), fun L hL => ?_⟩
  have hLP : L ≠ Pt := TabG.ne0 (sA.tb hT) hL
  have hLD : L ≠ D := fun z => by
    rw [z, kD] at hL
    cases hL
  refine lc_it (walk_enum (K := K) (a := ml) (xs := ((List.range A0.length).map fun i : Nat => B (i : Int)).map V.bl)) (fun (j : Nat) (H' : Hp) => Same H4 H' ∧ ∃ rs, H' L = some (.lst rs) ∧ rs.length = j ∧ ∀ i, i < j → ∃ ro, IsRk (mr A0 side (psA A0.length) (mkO (decide (side = 1)) B)) (i : Int) ro ∧ rs[i]? = some (rkV ro)) ?_ ?_ ?_ ?_
  · exact ⟨same_new hL _, [], upd_same, rfl, fun i hi => absurd hi (Nat.not_lt_zero i)⟩
  · rintro i H' _ ⟨s5, _⟩
    exact sqd (s5 _ _ (sA.lst hm))
  · rintro j x H5 H6 hj ⟨s5, rs, k5, hrl, hrs⟩ ⟨t, x1, y1, rfl, ht, rfl, hx1, hy1⟩
    cases hx1
    rw [List.length_map, List.length_map, List.length_range] at hj
    have hy1 : (((List.range A0.length).map fun i : Nat => B (i : Int)).map V.bl)[j]? = some y1 := hy1
    rw [List.getElem?_map, List.getElem?_map, List.getElem?_range hj] at hy1
    obtain rfl : V.bl (B (j : Int)) = y1 := Option.some.inj hy1
    obtain ⟨H7, e7, s7, k7⟩ := newH ht (.tup [.int (j : Nat), V.bl (B (j : Int))])
    rw [e7]
    have fin : ∀ ro, IsRk (mr A0 side (psA A0.length) (mkO (decide (side = 1)) B)) (j : Int) ro → ∃ acc, H7 L = some (.lst acc) ∧ acc.length < sizeLine ∧ (Same H4 (upd H7 L (.lst (acc ++ [rkV ro]))) ∧ ∃ rs, upd H7 L (.lst (acc ++ [rkV ro])) L = some (.lst rs) ∧ rs.length = j + 1 ∧ ∀ i, i < j + 1 → ∃ ro, IsRk (mr A0 side (psA A0.length) (mkO (decide (side = 1)) B)) (i : Int) ro ∧ rs[i]? = some (rkV ro)) := fun ro hro => by
      refine ⟨rs, s7 _ _ k5, big' (by omega), same_put (s5.trans s7) hL, _, upd_same, by rw [List.length_append, hrl]; rfl, fun i hi => ?_⟩
      by_cases hij : i < j
      · obtain ⟨r2, h1, h2⟩ := hrs i hij
        exact ⟨r2, h1, by rw [List.getElem?_append_left (by omega)]; exact h2⟩
      · have : i = j := by omega
        subst this
        refine ⟨ro, hro, ?_⟩
        rw [List.getElem?_append_right (by omega), hrl, Nat.sub_self]
        rfl
    obtain ⟨ro, hro, hr0, hr1⟩ := hdk.rk hst (p := (j : Int)) (by omega) (by omega)
    have hM : mkO (decide (side = 1)) B (j : Int) = B (j : Int) := if_neg (by omega)
    refine ⟨t, _, rfl, sqt k7, rfl, _, _, rfl, _, _, rfl, rfl, rfl, yes_if ?_⟩
    refine ⟨_, rfl, _, rfl, ?_⟩
    cases hB : B (j : Int) with
    | true =>
      refine ifT rfl ?_
      have := fin ro hro
      rw [hr0 (by rw [hM]; exact hB)] at this
      exact this
    | false =>
      refine ifF rfl ?_
      have hv := hr1 (by rw [hM]; exact hB)
      have kD7 := s7 _ _ (s5 _ _ kD)
      refine ⟨_, rfl, D, rfl, .inl ⟨_, .inl kD7⟩, _, rfl, _, DGet.k (k := Sum.inl (j : Int)) kD7, ?_⟩
      rw [hv]
      have := fin ro hro
      cases ro with
      | none => exact this
      | some r => exact this
  · rintro H5 ⟨s5, rs, k5, hrl, hrs⟩
    rw [List.length_map, List.length_map, List.length_range] at hrl hrs
    exact q L rs H5 (sA.trans (.of s5)) (sA.dom _ hL) k5 ⟨hrl, fun k hk => hrs k hk⟩
/-! ### come_ranks, stay_ranks -/
theorem dec_V {a b : Int} : decide (V.int a = V.int b) = decide (a = b) := by
  rw [dec_int, Bool.beq_eq_decide_eq]
def spComeR (K : PySem.W.Frag) (Pt : Addr) : Sp := fun vs H Q _ => ∃ (v : V) (A : Ar) (hp : Addr) (hm : List Int), vs = [v, .ref hp] ∧ ArQ H A v ∧ A.length ≤ 500 ∧ InA A A.length ∧ H hp = some (.tup (hm.map V.int)) ∧ GxR.TabG H Pt ∧
  ∀ p rs H', Sm Pt H H' → H p = none → H' p = some (.lst rs) → RksAt A 0 (mkO false (fun p => decide (p ∈ hm))) rs → Q (.ref p) H'
def spStayR (K : PySem.W.Frag) (Pt : Addr) : Sp := fun vs H Q _ => ∃ (v : V) (A : Ar) (hp : Addr) (hm : List Int), vs = [v, .ref hp] ∧ ArQ H A v ∧ A.length ≤ 500 ∧ InA A A.length ∧ (SqL K H hp (hm.map V.int) ∨ SqT K H hp (hm.map V.int)) ∧ GxR.TabG H Pt ∧
  ∀ p rs H', Sm Pt H H' → H p = none → H' p = some (.lst rs) → RksAt A 1 (mkO true (fun p => !decide (p ∈ hm))) rs → Q (.ref p) H'
theorem ok_stay_ranks (T : Txt K mg) {c Pt : Addr} (TB : GxR.TabB base mg c Pt) (hc : T.dforces.code = .ref c) : FnOk P w K mg base CX0 5 T.astay_ranks T.dstay_ranks Pstay_ranks (spStayR K Pt) := by
  have G_ranks_to := ok_ranks_to (P := P) (w := w) T TB hc
  refine T.Fstay_ranks.ok scstay_ranks (fun vs H Q E h => ?_) (fun cdv A outer s H vs Q E hr h => ?_)
  · obtain ⟨v, A, hp, hm, rfl, _⟩ := h
    rfl
  obtain ⟨v, A0, hp, hm, rfl, hA, hn, hin, hh, hT, q⟩ := h
  obtain ⟨b0, xs, rfl, hb0, hxs⟩ := id hA
  have hxl := hxs.1
  refine ⟨_, (pss_one (ps_ret (pe_call G_ranks_to (hr.mono (by omega)) (by rfl) T.m_ranks_to T.F_ranks_to.kp T.b_ranks_to .nil pass0 (pa_cons (pv 0) (pa_cons (pe_glob rfl T.g_DISTURBANCE T.r_DISTURBANCE) (pa_cons (pe_lc (own := [("at", 2)]) (g := (gName 2)) (tt := tYes) rfl scstay_ranks.nd (pi_range1 (by rfl) T.z_range (pa_cons (pe_callB call_len_seq (by rfl) T.z_len PySem.boot_len (pa_cons (pv 0) pa_nil)) pa_nil)) (blkOk_by (N := Nstay_ranks) (sc := defScope sstay_ranks) (by decide +kernel)) (fun _ _ _ _ _ => (pg_name (i := 2) scstay_ranks.nd rfl (Or.inl rfl))) (fun _ _ _ _ _ => pts_nil) (fun _ _ _ _ _ => (pe_cmpR (op_notIn_seqK (K := K) rfl) (pv 2) (pv 1) (by rfl)))) pa_nil)))))), ?_⟩
  refine ⟨_, rfl, _, rfl, b0, _, rfl, seqQ hb0, _, rfl, by omega, by omega, fun D hD => ?_⟩
  have hDP : D ≠ Pt := TabG.ne0 hT hD
  refine lc_range (lo := 0) (n := ((xs.length : Nat) : Int).toNat) (fun (j : Nat) (H' : Hp) => Same H H' ∧ H' D = some (.lst (((List.range j).map fun i : Nat => !decide ((i : Int) ∈ hm)).map V.bl))) ?_ ?_ ?_
  · exact ⟨same_new hD _, upd_same⟩
  · rintro j H1 hj ⟨s1, k1⟩
    refine ⟨rfl, yes_if ?_⟩
    refine ⟨_, rfl, _, rfl, hp, _, rfl, hh.elim (fun h => .inl (s1.seq h)) (fun h => .inr (SqT.same s1 h)), rfl, flat_ints' hm, _, k1, big' (by rw [List.length_map, List.length_map, List.length_range]; omega), same_put s1 hD, ?_⟩
    rw [upd_same, notIn_int, Int.zero_add, List.range_succ, List.map_append, List.map_append]
    rfl
  · rintro H1 ⟨s1, k1⟩
    rw [show ((xs.length : Nat) : Int).toNat = A0.length by omega] at k1
    refine ⟨_, A0, 1, D, fun p => !decide (p ∈ hm), rfl, hA.sm (Sm.of (P := Pt) s1), hn, hin, k1, TabG.same hT s1, fun p rs H2 s2 hp2 k2 hR => ?_⟩
    exact q p rs H2 ((Sm.of s1).trans s2) (s1.free hp2) k2 hR
end
end NL

namespace NL
open PySem PySem.Spec PyProof.Rows L2
/-! ### a list of ints by places -/
def lzF (n : Nat) (φ : Nat → Int) : List Int := (List.range n).map φ
theorem lzF_len (n : Nat) (φ : Nat → Int) : (lzF n φ).length = n := by unfold lzF; rw [List.length_map, List.length_range]
theorem lzF_at {n : Nat} {φ : Nat → Int} {k : Nat} (h : k < n) : (lzF n φ)[k]? = some (φ k) := by
  unfold lzF
  rw [List.getElem?_map, List.getElem?_range h]
  rfl
theorem lzF_get {n : Nat} {φ : Nat → Int} {k : Int} (h0 : 0 ≤ k) (h1 : k < n) : atI ((lzF n φ).map V.int) k = some (.int (φ k.toNat)) := by
  have := atI_nat (j := k.toNat) (show ((lzF n φ).map V.int)[k.toNat]? = some (V.int (φ k.toNat)) by rw [List.getElem?_map, lzF_at (by omega)]; rfl)
  rw [show ((k.toNat : Nat) : Int) = k by omega] at this
  exact this
theorem lzF_ext {n : Nat} {φ ψ : Nat → Int} (h : ∀ k, k < n → φ k = ψ k) : lzF n φ = lzF n ψ := List.map_congr_left fun k hk => h k (List.mem_range.mp hk)
theorem lzF_inj {n : Nat} {φ ψ : Nat → Int} (h : lzF n φ = lzF n ψ) (k : Nat) (hk : k < n) : φ k = ψ k := by
  have := lzF_at (φ := φ) hk
  rw [h, lzF_at hk] at this
  exact (Option.some.inj this).symm
theorem lzF_set {n i : Nat} {φ : Nat → Int} {c : Int} (hi : i < n) : ((lzF n φ).map V.int).set i (.int c) = (lzF n fun k => if k = i then c else φ k).map V.int := by
  refine List.ext_getElem? fun k => ?_
  rw [List.getElem?_set]
  by_cases hk : i = k
  · subst hk
    rw [if_pos rfl, if_pos (by rw [List.length_map, lzF_len]; exact hi), List.getElem?_map, lzF_at hi, Option.map_some, if_pos rfl]
  · rw [if_neg hk, List.getElem?_map, List.getElem?_map]
    rcases Nat.lt_or_ge k n with h | h
    · rw [lzF_at h, lzF_at h, if_neg (fun e => hk e.symm)]
    · rw [List.getElem?_eq_none (by rw [lzF_len]; exact h), List.getElem?_eq_none (by rw [lzF_len]; exact h)]
theorem lzF_snoc (n : Nat) (φ : Nat → Int) : (lzF (n + 1) φ).map V.int = (lzF n φ).map V.int ++ [V.int (φ n)] := by
  unfold lzF
  rw [List.range_succ, List.map_append, List.map_append]
  rfl
theorem eqv_intsG : ∀ l m : List Int, PyData.eqvAll (l.map PyData.int) (m.map PyData.int) = true → l = m
  | [], [], _ => rfl
  | [], b :: m, h => by cases h
  | a :: l, [], h => by cases h
  | a :: l, b :: m, h => by
    have h' : ((a == b) && PyData.eqvAll (l.map PyData.int) (m.map PyData.int)) = true := h
    rw [Bool.and_eq_true] at h'
    rw [eq_of_beq h'.1, eqv_intsG l m h'.2]
theorem eqv_reflG : ∀ l : List Int, PyData.eqvAll (l.map PyData.int) (l.map PyData.int) = true
  | [] => rfl
  | a :: l => by
    show ((a == a) && PyData.eqvAll (l.map PyData.int) (l.map PyData.int)) = true
    rw [eqv_reflG l, beq_self_eq_true]
    rfl
theorem inT_intG {x : Int} {l : List Int} : (V.bl (if false = true then !inV (V.int x) (l.map V.int) else inV (V.int x) (l.map V.int))) = V.bl (decide (x ∈ l)) := by
  rw [if_neg Bool.false_ne_true, int_in]
/-! ### the rounds of marks, told as the round of each position (-1: none yet) -/
def hz (f : Nat → Mk') : Nat → Int → Int
  | 0, p => if f 0 p = true then 0 else -1
  | k + 1, p => if 0 ≤ hz f k p then hz f k p else if f (k + 1) p = true then ((k + 1 : Nat) : Int) else -1
theorem hz_ge (f : Nat → Mk') : ∀ k p, -1 ≤ hz f k p
  | 0, p => by unfold hz; split <;> omega
  | k + 1, p => by
    unfold hz
    split
    · exact hz_ge f k p
    · split <;> omega
theorem hz_le (f : Nat → Mk') : ∀ k p, hz f k p ≤ (k : Int)
  | 0, p => by unfold hz; split <;> omega
  | k + 1, p => by
    have := hz_le f k p
    unfold hz
    split
    · omega
    · split <;> omega
theorem up_le {f : Nat → Mk'} (up : ∀ k p, f k p = true → f (k + 1) p = true) {p : Int} {j k : Nat} (h : j ≤ k) (e : f j p = true) : f k p = true := by
  induction h with
  | refl => exact e
  | step _ ih => exact up _ _ ih
section
variable {f : Nat → Mk'} (up : ∀ k p, f k p = true → f (k + 1) p = true)
include up
theorem hz_says : ∀ k p, (hz f k p < 0 → f k p = false) ∧ (0 ≤ hz f k p → f k p = true ∧ f (hz f k p).toNat p = true ∧ ∀ j, j < (hz f k p).toNat → f j p = false)
  | 0, p => by
    unfold hz
    cases h : f 0 p with
    | true =>
      rw [if_pos rfl]
      exact ⟨fun z => absurd z (by decide), fun _ => ⟨rfl, h, fun j hj => absurd hj (Nat.not_lt_zero j)⟩⟩
    | false =>
      rw [if_neg Bool.false_ne_true]
      exact ⟨fun _ => rfl, fun z => absurd z (by decide)⟩
  | k + 1, p => by
    obtain ⟨h1, h2⟩ := hz_says k p
    unfold hz
    by_cases h : 0 ≤ hz f k p
    · rw [if_pos h]
      obtain ⟨g1, g2, g3⟩ := h2 h
      exact ⟨fun z => absurd h (by omega), fun _ => ⟨up k p g1, g2, g3⟩⟩
    · rw [if_neg h]
      have hk := h1 (by omega)
      cases hf : f (k + 1) p with
      | true =>
        rw [if_pos rfl]
        refine ⟨fun z => by omega, fun _ => ⟨rfl, hf, fun j hj => ?_⟩⟩
        have hj2 : j ≤ k := by
          have : (((k + 1 : Nat) : Int)).toNat = k + 1 := Int.toNat_natCast _
          omega
        cases hfj : f j p with
        | false => rfl
        | true =>
          have : f k p = true := up_le up hj2 hfj
          rw [this] at hk
          cases hk
      | false =>
        rw [if_neg Bool.false_ne_true]
        exact ⟨fun _ => rfl, fun z => absurd z (by decide)⟩
end
def zOf : Option Nat → Int
  | none => -1
  | some r => (r : Nat)
end NL

namespace NL
open PySem PySem.Spec PyProof.Rows L2
/-! ### two answers that are the same -/
def Alk : Nat → Hp → V → V → Prop
  | 0, _, _, _ => False
  | n + 1, H, u, v => (u = .non ∧ v = .non) ∨ (∃ s, u = .str s ∧ v = .str s) ∨ (∃ i, u = .int i ∧ v = .int i) ∨ ∃ a b xs ys, u = .ref a ∧ v = .ref b ∧ H a = some (.tup xs) ∧ H b = some (.tup ys) ∧ xs.length = ys.length ∧ ys.length ≤ 1000000 ∧
      ∀ (k : Nat) x y, xs[k]? = some x → ys[k]? = some y → Alk n H x y
theorem Alk.ints {H : Hp} {a b : Addr} {l : List Int} (ha : H a = some (.tup (l.map V.int))) (hb : H b = some (.tup (l.map V.int))) (hl : l.length ≤ 1000000) : Alk 2 H (.ref a) (.ref b) := by
  refine .inr (.inr (.inr ⟨a, b, _, _, rfl, rfl, ha, hb, rfl, by rw [List.length_map]; exact hl, fun k x y hx hy => ?_⟩))
  rw [hx] at hy
  cases hy
  rw [List.getElem?_map] at hx
  obtain ⟨i, _, rfl⟩ := Option.map_eq_some_iff.mp hx
  exact .inr (.inr (.inl ⟨i, rfl, rfl⟩))
section
variable {P : Program} {w : World} {K : PySem.W.Frag} {mg : Str → Option Value} {base : Heap}
def spSame (n : Nat) : Sp := fun vs H Q _ => ∃ u v : V, vs = [u, v] ∧ Alk n H u v ∧ Q (.bl true) H
end
end NL

set_option maxHeartbeats 4000000
namespace NL
open PySem PySem.Spec PyProof.Rows L2
/-! ### ascending lists -/
abbrev Asc (l : List Int) : Prop := l.Pairwise (· < ·)
theorem asc_ext : ∀ {l m : List Int}, Asc l → Asc m → (∀ x, x ∈ l ↔ x ∈ m) → l = m
  | [], [], _, _, _ => rfl
  | [], b :: m, _, _, h => by have := (h b).mpr List.mem_cons_self; cases this
  | a :: l, [], _, _, h => by have := (h a).mp List.mem_cons_self; cases this
  | a :: l, b :: m, hl, hm, h => by
    obtain ⟨hl1, hl2⟩ := List.pairwise_cons.mp hl
    obtain ⟨hm1, hm2⟩ := List.pairwise_cons.mp hm
    have e : a = b := by
      rcases List.mem_cons.mp ((h a).mp List.mem_cons_self) with e | e
      · exact e
      · rcases List.mem_cons.mp ((h b).mpr List.mem_cons_self) with e' | e'
        · exact e'.symm
        · have := hm1 a e
          have := hl1 b e'
          omega
    subst e
    rw [asc_ext hl2 hm2 fun x => ?_]
    constructor
    · intro hx
      rcases List.mem_cons.mp ((h x).mp (List.mem_cons_of_mem _ hx)) with e | e
      · have := hl1 x hx
        omega
      · exact e
    · intro hx
      rcases List.mem_cons.mp ((h x).mpr (List.mem_cons_of_mem _ hx)) with e | e
      · have := hm1 x hx
        omega
      · exact e
def insU (x : Int) : List Int → List Int
  | [] => [x]
  | a :: r => if x < a then x :: a :: r else if x = a then a :: r else a :: insU x r
theorem mem_insU {x y : Int} : ∀ {l : List Int}, y ∈ insU x l ↔ y = x ∨ y ∈ l
  | [] => by simp [insU]
  | a :: r => by
    unfold insU
    split
    · simp
    · split
      · rename_i h
        subst h
        simp
      · rw [List.mem_cons, mem_insU, List.mem_cons]
        constructor
        · rintro (h | h | h) <;> simp [h]
        · rintro (h | h | h) <;> simp [h]
theorem asc_insU {x : Int} : ∀ {l : List Int}, Asc l → Asc (insU x l)
  | [], _ => List.pairwise_singleton _ _
  | a :: r, h => by
    obtain ⟨h1, h2⟩ := List.pairwise_cons.mp h
    unfold insU
    split
    · rename_i hx
      refine List.pairwise_cons.mpr ⟨fun y hy => ?_, h⟩
      rcases List.mem_cons.mp hy with e | e
      · omega
      · have := h1 y e
        omega
    · split
      · exact h
      · refine List.pairwise_cons.mpr ⟨fun y hy => ?_, asc_insU h2⟩
        rcases mem_insU.mp hy with e | e
        · omega
        · exact h1 y e
def srt (l : List Int) : List Int := l.foldr insU []
theorem mem_srt {y : Int} : ∀ {l : List Int}, y ∈ srt l ↔ y ∈ l
  | [] => Iff.rfl
  | a :: r => by
    show y ∈ insU a (srt r) ↔ _
    rw [mem_insU, mem_srt, List.mem_cons]
theorem asc_srt : ∀ {l : List Int}, Asc (srt l)
  | [] => List.Pairwise.nil
  | a :: r => asc_insU asc_srt
theorem srt_id {l : List Int} (h : Asc l) : srt l = l := asc_ext asc_srt h fun _ => mem_srt
theorem srt_ext {l m : List Int} (h : ∀ x, x ∈ l ↔ x ∈ m) : srt l = srt m := asc_ext asc_srt asc_srt fun x => by rw [mem_srt, mem_srt, h]
theorem srt_is {l m : List Int} (hm : Asc m) (h : ∀ x, x ∈ m ↔ x ∈ l) : m = srt l := asc_ext hm asc_srt fun x => by rw [mem_srt, h]
theorem asc_filter {l : List Int} (p : Int → Bool) (h : Asc l) : Asc (l.filter p) := h.sublist List.filter_sublist
theorem srt_len : ∀ {l : List Int}, (srt l).length ≤ l.length
  | [] => Nat.le_refl _
  | a :: r => by
    have : ∀ {m : List Int}, (insU a m).length ≤ m.length + 1 := fun {m} => by
      induction m with
      | nil => exact Nat.le_refl _
      | cons b t ih =>
        unfold insU
        split
        · exact Nat.le_refl _
        · split
          · exact Nat.le_succ _
          · exact Nat.succ_le_succ ih
    have h1 := srt_len (l := r)
    have h2 := this (m := srt r)
    show (insU a (srt r)).length ≤ r.length + 1
    omega
/-- an ascending list from lo up to less than hi is short -/
theorem asc_short : ∀ {l : List Int} {lo hi : Int}, Asc l → (∀ x ∈ l, lo ≤ x ∧ x < hi) → lo ≤ hi → (l.length : Int) ≤ hi - lo
  | [], lo, hi, _, _, h => by show (0 : Int) ≤ _; omega
  | a :: r, lo, hi, h, hb, hlh => by
    obtain ⟨h1, h2⟩ := List.pairwise_cons.mp h
    have ha := hb a List.mem_cons_self
    have := asc_short (l := r) (lo := a + 1) (hi := hi) h2 (fun x hx => ⟨by have := h1 x hx; omega, (hb x (List.mem_cons_of_mem _ hx)).2⟩) (by omega)
    rw [List.length_cons]
    omega
/-! ### positions parted by their readings -/
def prt (rd : Int → Int) (ps : List Int) : List (List Int) := (srt (ps.map rd)).map fun r => ps.filter fun p => decide (rd p = r)
theorem prt_srt (rd : Int → Int) (ps : List Int) : prt rd (srt ps) = (srt (ps.map rd)).map fun r => srt (ps.filter fun p => decide (rd p = r)) := by
  unfold prt
  rw [show srt ((srt ps).map rd) = srt (ps.map rd) from srt_ext fun x => by simp only [List.mem_map, mem_srt]]
  refine List.map_congr_left fun r _ => asc_ext (asc_filter _ asc_srt) asc_srt fun x => ?_
  rw [mem_srt, List.mem_filter, List.mem_filter, mem_srt]
theorem mem_prt {rd : Int → Int} {ps g : List Int} (h : g ∈ prt rd ps) : ∃ p ∈ ps, g = ps.filter fun q => decide (rd q = rd p) := by
  obtain ⟨r, hr, rfl⟩ := List.mem_map.mp h
  obtain ⟨p, hp, rfl⟩ := List.mem_map.mp (mem_srt.mp hr)
  exact ⟨p, hp, rfl⟩
theorem prt_of {rd : Int → Int} {ps : List Int} {p : Int} (h : p ∈ ps) : (ps.filter fun q => decide (rd q = rd p)) ∈ prt rd ps := List.mem_map.mpr ⟨rd p, mem_srt.mpr (List.mem_map.mpr ⟨p, h, rfl⟩), rfl⟩
theorem prt_len {rd : Int → Int} {ps : List Int} : (prt rd ps).length ≤ ps.length := by
  unfold prt
  rw [List.length_map]
  have := srt_len (l := ps.map rd)
  rw [List.length_map] at this
  exact this
/-- a known set -/
structure KS (rd : Int → Int) (n : Int) (g : List Int) : Prop where
  ne : g ≠ []
  asc : Asc g
  mem : ∀ p ∈ g, 0 ≤ p ∧ p < n
  one : ∀ p ∈ g, ∀ q ∈ g, rd p = rd q
theorem prt_ks {rd : Int → Int} {n : Int} {ps : List Int} (ha : Asc ps) (hm : ∀ p ∈ ps, 0 ≤ p ∧ p < n) : ∀ g ∈ prt rd ps, KS rd n g := fun g hg => by
  obtain ⟨p, hp, rfl⟩ := mem_prt hg
  refine ⟨fun e => ?_, asc_filter _ ha, fun q hq => hm q (List.mem_filter.mp hq).1, fun x hx y hy => ?_⟩
  · have : p ∈ ps.filter fun q => decide (rd q = rd p) := List.mem_filter.mpr ⟨hp, decide_eq_true rfl⟩
    rw [e] at this
    cases this
  · rw [of_decide_eq_true (List.mem_filter.mp hx).2, of_decide_eq_true (List.mem_filter.mp hy).2]
theorem prt_nodup {rd : Int → Int} {ps : List Int} : (prt rd ps).Nodup := by
  unfold prt
  refine List.pairwise_map.mpr ?_
  have h : (srt (ps.map rd)).Pairwise fun a b => a ≠ b ∧ a ∈ ps.map rd := by
    refine List.Pairwise.imp_of_mem (R := (· < ·)) (fun {a b} ha _ hab => ⟨by omega, mem_srt.mp ha⟩) asc_srt
  refine h.imp fun {a b} hab e => ?_
  obtain ⟨p, hp, hpa⟩ := List.mem_map.mp hab.2
  have h1 : p ∈ ps.filter fun q => decide (rd q = a) := List.mem_filter.mpr ⟨hp, decide_eq_true hpa⟩
  rw [e] at h1
  have h2 := of_decide_eq_true (List.mem_filter.mp h1).2
  omega
/-! ### numbers of sets -/
def nr : List (List Int) → List Int → Nat
  | [], _ => 0
  | a :: r, g => if a = g then 0 else nr r g + 1
theorem nr_get : ∀ {S : List (List Int)} {g : List Int}, g ∈ S → S[nr S g]? = some g
  | [], g, h => by cases h
  | a :: r, g, h => by
    unfold nr
    by_cases e : a = g
    · rw [if_pos e, e]
      rfl
    · rw [if_neg e]
      rcases List.mem_cons.mp h with h | h
      · exact absurd h.symm e
      · rw [List.getElem?_cons_succ]
        exact nr_get h
theorem nr_lt {S : List (List Int)} {g : List Int} (h : g ∈ S) : nr S g < S.length := (List.getElem?_eq_some_iff.mp (nr_get h)).1
theorem nr_app : ∀ {S T : List (List Int)} {g : List Int}, g ∈ S → nr (S ++ T) g = nr S g
  | [], T, g, h => by cases h
  | a :: r, T, g, h => by
    rw [List.cons_append]
    unfold nr
    by_cases e : a = g
    · rw [if_pos e, if_pos e]
    · rw [if_neg e, if_neg e]
      rcases List.mem_cons.mp h with h | h
      · exact absurd h.symm e
      · rw [nr_app h]
theorem nr_new : ∀ {S : List (List Int)} {g : List Int}, g ∉ S → nr (S ++ [g]) g = S.length
  | [], g, _ => by simp [nr]
  | a :: r, g, h => by
    rw [List.cons_append]
    unfold nr
    rw [if_neg (fun e => h (by rw [e]; exact List.mem_cons_self)), nr_new (fun e => h (List.mem_cons_of_mem _ e))]
    rfl
theorem nr_inj {S : List (List Int)} {g h : List Int} (hg : g ∈ S) (hh : h ∈ S) (e : nr S g = nr S h) : g = h := by
  have h1 := nr_get hg
  have h2 := nr_get hh
  rw [e, h2] at h1
  exact (Option.some.inj h1).symm
theorem nr_at : ∀ {S : List (List Int)} {k : Nat} {g : List Int}, S.Nodup → S[k]? = some g → nr S g = k := fun {S k g} hS hk => by
  have h1 := nr_get (List.mem_of_getElem? hk)
  have a1 := (List.getElem?_eq_some_iff.mp h1)
  have a2 := (List.getElem?_eq_some_iff.mp hk)
  obtain ⟨b1, c1⟩ := a1
  obtain ⟨b2, c2⟩ := a2
  rcases Nat.lt_trichotomy (nr S g) k with hlt | he | hlt
  · exact absurd (c1.trans c2.symm) (List.pairwise_iff_getElem.mp hS _ _ b1 b2 hlt)
  · exact he
  · exact absurd (c2.trans c1.symm) (List.pairwise_iff_getElem.mp hS _ _ b2 b1 hlt)
def addS (S : List (List Int)) : List (List Int) → List (List Int)
  | [] => S
  | g :: r => addS (if g ∈ S then S else S ++ [g]) r
theorem addS_pre : ∀ {G S : List (List Int)}, ∃ T, addS S G = S ++ T
  | [], S => ⟨[], (List.append_nil _).symm⟩
  | g :: r, S => by
    unfold addS
    obtain ⟨T, hT⟩ := addS_pre (G := r) (S := if g ∈ S then S else S ++ [g])
    rw [hT]
    by_cases h : g ∈ S
    · exact ⟨T, by rw [if_pos h]⟩
    · exact ⟨[g] ++ T, by rw [if_neg h, List.append_assoc]⟩
theorem mem_addS {x : List Int} : ∀ {G S : List (List Int)}, x ∈ addS S G ↔ x ∈ S ∨ x ∈ G
  | [], S => by simp [addS]
  | g :: r, S => by
    unfold addS
    rw [mem_addS]
    by_cases h : g ∈ S
    · rw [if_pos h, List.mem_cons]
      constructor
      · rintro (e | e) <;> simp [e]
      · rintro (e | e | e)
        · exact .inl e
        · exact .inl (e ▸ h)
        · exact .inr e
    · rw [if_neg h, List.mem_append, List.mem_singleton, List.mem_cons, or_assoc]
theorem addS_nodup : ∀ {G S : List (List Int)}, S.Nodup → (addS S G).Nodup
  | [], S, h => h
  | g :: r, S, h => by
    unfold addS
    refine addS_nodup ?_
    by_cases e : g ∈ S
    · rw [if_pos e]
      exact h
    · rw [if_neg e]
      exact List.nodup_append.mpr ⟨h, by simp, fun a ha b hb q => e (by rw [← List.mem_singleton.mp hb, ← q]; exact ha)⟩
theorem addS_app (S G : List (List Int)) (g : List Int) : addS S (G ++ [g]) = if g ∈ addS S G then addS S G else addS S G ++ [g] := by
  induction G generalizing S with
  | nil => rfl
  | cons a r ih =>
    rw [List.cons_append]
    unfold addS
    exact ih _
/-! ### the known arena, step by step -/
def optOf (A : Ar) (p : Int) (i : Nat) : Opt := (A.getD p.toNat []).getD i []
def lenOf (A : Ar) (p : Int) : Nat := (A.getD p.toNat []).length
def aft (A : Ar) (K : List Int) (i : Nat) : List Int := K.flatMap fun p => optOf A p i
def succs (A : Ar) (K : List Int) (i : Nat) : List Int := srt (aft A K i)
def fol (A : Ar) (rd : Int → Int) (K : List Int) (i : Nat) : List (List Int) := prt rd ((succs A K i).filter fun p => !decide (p = -1))
def optK (A : Ar) (rd : Int → Int) (S : List (List Int)) (K : List Int) (i : Nat) : Opt := (if (-1 : Int) ∈ succs A K i then [-1] else []) ++ srt ((fol A rd K i).map fun g => ((nr S g : Nat) : Int))
def wid (A : Ar) : List Int → Nat
  | [] => 0
  | [p] => lenOf A p
  | p :: q :: r => min (lenOf A p) (wid A (q :: r))
theorem wid_le {A : Ar} : ∀ {K : List Int}, ∀ p ∈ K, wid A K ≤ lenOf A p
  | [], p, h => by cases h
  | [q], p, h => by rw [List.mem_singleton.mp h]; exact Nat.le_refl _
  | a :: q :: r, p, h => by
    unfold wid
    rcases List.mem_cons.mp h with h | h
    · rw [h]
      exact Nat.min_le_left _ _
    · exact Nat.le_trans (Nat.min_le_right _ _) (wid_le p h)
theorem wid_mem {A : Ar} : ∀ {K : List Int}, K ≠ [] → ∃ p ∈ K, wid A K = lenOf A p
  | [], h => absurd rfl h
  | [q], h => ⟨q, List.mem_cons_self, rfl⟩
  | a :: q :: r, h => by
    unfold wid
    obtain ⟨p, hp, e⟩ := wid_mem (A := A) (K := q :: r) (by simp)
    rcases Nat.le_total (lenOf A a) (wid A (q :: r)) with g | g
    · exact ⟨a, List.mem_cons_self, Nat.min_eq_left g⟩
    · exact ⟨p, List.mem_cons_of_mem _ hp, by rw [Nat.min_eq_right g, e]⟩
theorem wid_is {A : Ar} {K : List Int} {m : Nat} (h1 : ∀ p ∈ K, m ≤ lenOf A p) (h2 : ∃ p ∈ K, m = lenOf A p) : m = wid A K := by
  obtain ⟨p, hp, e⟩ := h2
  obtain ⟨q, hq, e2⟩ := wid_mem (A := A) (K := K) (fun e => by rw [e] at hp; cases hp)
  have := wid_le (A := A) p hp
  have := h1 q hq
  omega
/-- the sets behind the first w options of K -/
def rowS (A : Ar) (rd : Int → Int) (K : List Int) (S : List (List Int)) : Nat → List (List Int)
  | 0 => S
  | w + 1 => addS (rowS A rd K S w) (fol A rd K w)
def stp (A : Ar) (rd : Int → Int) (x : List (List Int) × Ar) : List (List Int) × Ar := match x.1[x.2.length]? with
  | none => x
  | some K => (rowS A rd K x.1 (wid A K), x.2 ++ [(List.range (wid A K)).map (optK A rd (rowS A rd K x.1 (wid A K)) K)])
def kn (A : Ar) (rd : Int → Int) (st : List Int) : Nat → List (List Int) × Ar
  | 0 => (prt rd st, [])
  | n + 1 => stp A rd (kn A rd st n)
section
variable {A : Ar} {rd : Int → Int} {st : List Int}
theorem rowS_pre {K : List Int} {S : List (List Int)} : ∀ w, ∃ T, rowS A rd K S w = S ++ T
  | 0 => ⟨[], (List.append_nil _).symm⟩
  | w + 1 => by
    obtain ⟨T, hT⟩ := rowS_pre (K := K) (S := S) w
    obtain ⟨T2, h2⟩ := addS_pre (G := fol A rd K w) (S := rowS A rd K S w)
    exact ⟨T ++ T2, by show addS _ _ = _; rw [h2, hT, List.append_assoc]⟩
theorem rowS_le {K : List Int} {S : List (List Int)} {v w : Nat} (h : v ≤ w) : ∃ T, rowS A rd K S w = rowS A rd K S v ++ T := by
  induction h with
  | refl => exact ⟨[], (List.append_nil _).symm⟩
  | step h ih =>
    obtain ⟨T, hT⟩ := ih
    obtain ⟨T2, h2⟩ := addS_pre (G := fol A rd K _) (S := rowS A rd K S _)
    exact ⟨T ++ T2, by show addS _ _ = _; rw [h2, hT, List.append_assoc]⟩
theorem rowS_fol {K : List Int} {S : List (List Int)} {i w : Nat} (h : i < w) : ∀ g ∈ fol A rd K i, g ∈ rowS A rd K S w := fun g hg => by
  obtain ⟨T, hT⟩ := rowS_le (A := A) (rd := rd) (K := K) (S := S) (show i + 1 ≤ w from h)
  rw [hT]
  exact List.mem_append_left _ (mem_addS.mpr (.inr hg))
theorem optK_app {S T : List (List Int)} {K : List Int} {i : Nat} (h : ∀ g ∈ fol A rd K i, g ∈ S) : optK A rd (S ++ T) K i = optK A rd S K i := by
  unfold optK
  rw [List.map_congr_left fun g hg => by rw [nr_app (h g hg)]]
/-- what holds of the sets found so far -/
structure KnI (A : Ar) (rd : Int → Int) (st : List Int) (S : List (List Int)) (F : Ar) : Prop where
  nd : S.Nodup
  ks : ∀ g ∈ S, KS rd (A.length : Int) g
  le : F.length ≤ S.length
  pre : ∃ T, S = prt rd st ++ T
  row : ∀ (k : Nat) (K : List Int), k < F.length → S[k]? = some K → F[k]? = some ((List.range (wid A K)).map (optK A rd S K)) ∧ ∀ i, i < wid A K → ∀ g ∈ fol A rd K i, g ∈ S
theorem lenOf_at {p : Int} {os : Pos'} (h : A[p.toNat]? = some os) : lenOf A p = os.length := by
  unfold lenOf
  rw [List.getD_eq_getElem?_getD, h]
  rfl
theorem optOf_at {p : Int} {i : Nat} {os : Pos'} {o : Opt} (h : A[p.toNat]? = some os) (h2 : os[i]? = some o) : optOf A p i = o := by
  unfold optOf
  rw [List.getD_eq_getElem?_getD, List.getD_eq_getElem?_getD, h, Option.getD_some, h2]
  rfl
theorem optOf_g (hG : ArG A) {p : Int} {i : Nat} (p0 : 0 ≤ p) (p1 : p < (A.length : Int)) (hi : i < lenOf A p) : ∃ os o, A[p.toNat]? = some os ∧ os[i]? = some o ∧ optOf A p i = o ∧ lenOf A p = os.length ∧ OptG (A.length : Int) o ∧ o ∈ os ∧ os ∈ A := by
  have hk : p.toNat < A.length := by omega
  have h1 : A[p.toNat]? = some A[p.toNat] := List.getElem?_eq_getElem hk
  have h3 := lenOf_at h1
  have h2 : A[p.toNat][i]? = some A[p.toNat][i] := List.getElem?_eq_getElem (by omega)
  exact ⟨_, _, h1, h2, optOf_at h1 h2, h3, (hG.2 _ (List.mem_of_getElem? h1)).2 _ (List.mem_of_getElem? h2), List.mem_of_getElem? h2, List.mem_of_getElem? h1⟩
theorem succs_mem (hG : ArG A) {K : List Int} {i : Nat} (hK : ∀ p ∈ K, 0 ≤ p ∧ p < (A.length : Int)) (hi : ∀ p ∈ K, i < lenOf A p) : ∀ s ∈ succs A K i, -1 ≤ s ∧ s < (A.length : Int) := fun s hs => by
  obtain ⟨p, hp, hs⟩ := List.mem_flatMap.mp (mem_srt.mp hs)
  obtain ⟨os, o, _, _, e, _, hO, _⟩ := optOf_g hG (hK p hp).1 (hK p hp).2 (hi p hp)
  rw [e] at hs
  exact hO.mem s hs
theorem fol_ks (hG : ArG A) {K : List Int} {i : Nat} (hK : KS rd (A.length : Int) K) (hi : i < wid A K) : ∀ g ∈ fol A rd K i, KS rd (A.length : Int) g :=
  prt_ks (asc_filter _ asc_srt) fun p hp => by
    obtain ⟨h1, h2⟩ := List.mem_filter.mp hp
    have := succs_mem hG hK.mem (fun p hp => Nat.lt_of_lt_of_le hi (wid_le p hp)) p h1
    have h3 : p ≠ -1 := by simpa using h2
    omega
theorem rowS_ks (hG : ArG A) {K : List Int} {S : List (List Int)} (hK : KS rd (A.length : Int) K) (hS : ∀ g ∈ S, KS rd (A.length : Int) g) : ∀ w, w ≤ wid A K → ∀ g ∈ rowS A rd K S w, KS rd (A.length : Int) g
  | 0, _, g, hg => hS g hg
  | w + 1, hw, g, hg => by
    rcases mem_addS.mp hg with h | h
    · exact rowS_ks hG hK hS w (by omega) g h
    · exact fol_ks hG hK (by omega) g h
theorem rowS_nodup {K : List Int} {S : List (List Int)} (hS : S.Nodup) : ∀ w, (rowS A rd K S w).Nodup
  | 0 => hS
  | w + 1 => addS_nodup (rowS_nodup hS w)
theorem kn_inv (hG : ArG A) (hs : Asc st) (hm : ∀ p ∈ st, 0 ≤ p ∧ p < (A.length : Int)) : ∀ n, KnI A rd st (kn A rd st n).1 (kn A rd st n).2
  | 0 => ⟨prt_nodup, prt_ks hs hm, Nat.zero_le _, ⟨[], (List.append_nil _).symm⟩, fun k K h => absurd h (Nat.not_lt_zero k)⟩
  | n + 1 => by
    have I := kn_inv hG hs hm n
    show KnI A rd st (stp A rd (kn A rd st n)).1 (stp A rd (kn A rd st n)).2
    generalize kn A rd st n = x at I
    obtain ⟨S, F⟩ := x
    have I : KnI A rd st S F := I
    unfold stp
    show KnI A rd st (match S[F.length]? with
      | none => (S, F)
      | some K => (rowS A rd K S (wid A K), F ++ [(List.range (wid A K)).map (optK A rd (rowS A rd K S (wid A K)) K)])).1 (match S[F.length]? with
      | none => (S, F)
      | some K => (rowS A rd K S (wid A K), F ++ [(List.range (wid A K)).map (optK A rd (rowS A rd K S (wid A K)) K)])).2
    cases hk : S[F.length]? with
    | none => exact I
    | some K =>
      have hK := I.ks K (List.mem_of_getElem? hk)
      have hlt := (List.getElem?_eq_some_iff.mp hk).1
      obtain ⟨T, hT⟩ := rowS_pre (A := A) (rd := rd) (K := K) (S := S) (wid A K)
      obtain ⟨T0, hT0⟩ := I.pre
      refine ⟨rowS_nodup I.nd _, rowS_ks hG hK I.ks _ (Nat.le_refl _), ?_, ⟨T0 ++ T, ?_⟩, fun k J hkl hJ => ?_⟩
      · show (F ++ [_]).length ≤ (rowS A rd K S (wid A K)).length
        rw [hT, List.length_append, List.length_append, List.length_singleton]
        have hlt : F.length < S.length := hlt
        omega
      · show rowS A rd K S (wid A K) = _
        have hT0 : S = prt rd st ++ T0 := hT0
        rw [hT, hT0, List.append_assoc]
      · have hkl : k < (F ++ [(List.range (wid A K)).map (optK A rd (rowS A rd K S (wid A K)) K)]).length := hkl
        have hJ : (rowS A rd K S (wid A K))[k]? = some J := hJ
        show (F ++ [(List.range (wid A K)).map (optK A rd (rowS A rd K S (wid A K)) K)])[k]? = some ((List.range (wid A J)).map (optK A rd (rowS A rd K S (wid A K)) J)) ∧ ∀ i, i < wid A J → ∀ g ∈ fol A rd J i, g ∈ rowS A rd K S (wid A K)
        rw [List.length_append, List.length_singleton] at hkl
        have hlt : F.length < S.length := hlt
        have hJS : S[k]? = some J := by
          rw [hT, List.getElem?_append_left (by omega)] at hJ
          exact hJ
        rcases Nat.lt_or_ge k F.length with h | h
        · obtain ⟨r1, r2⟩ := I.row k J h hJS
          refine ⟨?_, fun i hi g hg => by rw [hT]; exact List.mem_append_left _ (r2 i hi g hg)⟩
          rw [List.getElem?_append_left h, r1]
          congr 1
          refine List.map_congr_left fun i hi => ?_
          rw [hT, optK_app (r2 i (List.mem_range.mp hi))]
        · have e : k = F.length := by omega
          subst e
          have hk : S[F.length]? = some K := hk
          rw [hk] at hJS
          cases hJS
          refine ⟨?_, fun i hi g hg => rowS_fol hi g hg⟩
          rw [List.getElem?_append_right (Nat.le_refl _), Nat.sub_self]
          rfl
/-- the known arena and its sets -/
def IsKn (A : Ar) (rd : Int → Int) (st : List Int) (F : Ar) (S : List (List Int)) : Prop := ∃ n, kn A rd st n = (S, F) ∧ F.length = S.length
theorem stp_end {S : List (List Int)} {F : Ar} (h : F.length = S.length) : stp A rd (S, F) = (S, F) := by
  unfold stp
  show (match S[F.length]? with
    | none => (S, F)
    | some K => _) = _
  rw [List.getElem?_eq_none (by omega)]
theorem kn_stay {n : Nat} {S : List (List Int)} {F : Ar} (h : kn A rd st n = (S, F)) (he : F.length = S.length) : ∀ m, n ≤ m → kn A rd st m = (S, F) := fun m hm => by
  induction hm with
  | refl => exact h
  | step _ ih =>
    show stp A rd (kn A rd st _) = _
    rw [ih, stp_end he]
theorem IsKn.uniq {F F' : Ar} {S S' : List (List Int)} (h : IsKn A rd st F S) (h' : IsKn A rd st F' S') : F = F' ∧ S = S' := by
  obtain ⟨n, h1, h2⟩ := h
  obtain ⟨m, h3, h4⟩ := h'
  rcases Nat.le_total n m with g | g
  · have := kn_stay h1 h2 m g
    rw [h3] at this
    cases this
    exact ⟨rfl, rfl⟩
  · have := kn_stay h3 h4 n g
    rw [h1] at this
    cases this
    exact ⟨rfl, rfl⟩
theorem IsKn.inv (hG : ArG A) (hs : Asc st) (hm : ∀ p ∈ st, 0 ≤ p ∧ p < (A.length : Int)) {F : Ar} {S : List (List Int)} (h : IsKn A rd st F S) : KnI A rd st S F ∧ F.length = S.length := by
  obtain ⟨n, h1, h2⟩ := h
  have := kn_inv (rd := rd) hG hs hm n
  rw [h1] at this
  exact ⟨this, h2⟩
end
end NL

set_option maxHeartbeats 4000000
namespace NL
open PySem PySem.Spec PyProof.Rows L2
/-! ### {tuple: value for ..} -/
theorem gx_dset {X : Cx} {pins : List (Addr × Obj)} {σ : L2.St} {H Hn : Hp} {s : Shared} {E : Value → Shared → Prop} {D : Addr} {y v : V} {u r : Value} {Q : Unit → Shared → Prop} (hu : X.A.units + 1 < cLine) (I : Inv X pins σ H s) (g : ∃ kvs k b, H D = some (.dT kvs) ∧ y = .ref b ∧ H b = some (.tup (k.map kV)) ∧ kvs.length < sizeLine ∧ Hn = upd H D (.dT (putK kvs k v)))
    (ry : RelV y u) (rv : RelV v r) (h : ∀ s', Inv X pins σ Hn s' → Q () s') : wpAny (model X.prog X.w) X.A (dictSet D u r) Q E s := by
  obtain ⟨kvs, k, b, eD, rfl, eb, hl, rfl⟩ := g
  cases (show u = Value.ref b from ry)
  obtain ⟨z1, z2, ents, z3, z4⟩ := dt_of I.hok eD
  have l1 : ents.length ≤ sizeLine := (Paired.length z3) ▸ z1
  have l2 : (putK kvs k v).length ≤ sizeLine := Nat.le_trans (length_putK kvs k v) hl
  refine wpAny_dictSet_heap (hsz := l1) (show X.A.units < cLine by omega) (key_of I.hok eb) z4 fun g2 ⟨q, es, ep, y1, y2, y3, y4, _, y5⟩ sb => h _ ?_
  refine d_write I (eD ▸ True.intro) sb ⟨q, y1⟩ ⟨l2, z2, _, (z3.put k eb rv).keeps fun c ys ec => ?_, q, es, ep, y1, y2, y3, y4, y5⟩
  exact (upd_ne (ne_of ec eD (fun z => nomatch z))).trans ec
section
variable {X : Cx}
/-- {k: v for target in iter if ..}, keys tuples of ints: D the new dict -/
def tDcT (wi : TI) (g : TG) (tt : TT) (tk tv : TE) (vs : List Nat) : TE := fun σ H Q => wi σ H fun J G1 => ∀ D, G1 D = none → ∃ W : Nat → Nat → Hp → Prop, (∃ m, W 0 m (upd G1 D (.dT []))) ∧ ∀ i m G, W i m G →
  (J.stop i G ∧ Q (.ref D) G) ∨ (J.go i G ∧ ∃ Nx : Hp → Prop, (∀ G', Nx G' → ∃ m', m' < m ∧ W (i + 1) m' G') ∧ ∀ x G', J.yld i G x G' → g x (wipe σ vs) G' fun τ G2 => wipe τ vs = wipe σ vs ∧ tt τ G2 fun b G3 =>
    if b = true then tk τ G3 fun y G4 => tv τ G4 fun z G5 => ∃ kvs k b Gn, Gn = upd G5 D (.dT (putK kvs k z)) ∧ y = .ref b ∧ G5 b = some (.tup (k.map kV)) ∧ G5 D = some (.dT kvs) ∧ kvs.length < sizeLine ∧ Nx Gn else Nx G3)
theorem pe_dcT {kx vx tg iter : Expr} {ifs : List Expr} {scope : Scope} {own : List (Str × Nat)} {pos : Pos} {wi : TI} {g : TG} {tt : TT} {tk tv : TE} (hu : X.A.units + 1 < cLine) (hc : X.calm = true) (hN : X.N.Nodup) (hi : PI X tg iter wi) (ok : BlkOk X.N X.env.scope scope own)
    (pgs : ∀ (s : Shared) (H : Hp) (C : Addr) (cl : List (Str × Addr)) (fp : List Addr), PG (X.blk s H scope (compEnvC scope cl C X.env) fp) tg g) (pts : ∀ (s : Shared) (H : Hp) (C : Addr) (cl : List (Str × Addr)) (fp : List Addr), PTs (X.blk s H scope (compEnvC scope cl C X.env) fp) ifs tt)
    (pks : ∀ (s : Shared) (H : Hp) (C : Addr) (cl : List (Str × Addr)) (fp : List Addr), PE (X.blk s H scope (compEnvC scope cl C X.env) fp) kx tk)
    (pvs : ∀ (s : Shared) (H : Hp) (C : Addr) (cl : List (Str × Addr)) (fp : List Addr), PE (X.blk s H scope (compEnvC scope cl C X.env) fp) vx tv) (hs : ∀ x, foldedSetIterable iter X.env x = pure x := by intro _; rfl) :
    PE X (.DictComp kx vx [⟨tg, iter, ifs, 0⟩] scope pos) (tDcT wi g tt tk tv (own.map (·.2))) := by
  refine ⟨fun pins z0 σ G0 Q J0 h => ?_⟩
  rw [arm_eval_DictComp]
  have cells : ∀ y ∈ scope.names, y.2 = .free → ∃ c, X.env.cells.lookup y.1 = some c := fun y hy e => (ok.free y hy e).elim (fun k => J0.ok.has _ (.inl k)) fun k => J0.ok.has _ (.inr k)
  refine wpAny_comprehension_free (use := none) rfl hs (closure_ok cells) ok.kind (fun y hy e => by rw [ok.uniq y hy, e]) (thn (hi.run pins z0 σ G0 _ J0 h) fun _ z1 k1 => thn k1 fun _ z2 k2 => ?_)
  obtain ⟨it, fp, tn, J, G2, rfl, J2, tu, st2, f2, q⟩ := k2
  refine wpAny_newObj_type (newEnv_comp ?_)
  generalize eD : z2.heap.objs.size = D
  have nD : G2 D = none := J2.hok.fresh (Nat.le_of_eq eD)
  obtain ⟨W, ⟨m0, w0⟩, turn⟩ := q D nD
  generalize e3 : ({ z2 with heap := z2.heap.push { cls := .type "dict", data := .dict #[] } } : Shared) = z3
  have hp3 : z3.heap = z2.heap.push { cls := .type "dict", data := .dict #[] } := e3 ▸ rfl
  have J3 : Inv X pins σ (upd G2 D (.dT [])) z3 := by
    subst e3 eD
    exact J2.laid (t' := z2.toks) (fun b o e => Heap.get?_push_of_some _ e) (Nat.le_refl _) (dt_empty z2.heap J2.big)
  have low : ∀ b ∈ fp, b < z2.heap.objs.size := fun b hb => (tu.obj _ _ st2 b hb).elim fun o e => Heap.lt_size e.1
  have f3 : ∀ b ∈ fp, FpOk X pins (upd G2 D (.dT [])) b ∧ b < z3.heap.objs.size := fun b hb => by
    have lt := low b hb
    refine ⟨⟨?_, (f2 b hb).2⟩, by rw [hp3, Heap.size_push]; exact Nat.lt_succ_of_lt lt⟩
    rw [upd_ne (by rw [← eD]; exact Nat.ne_of_lt lt)]
    exact (f2 b hb).1
  have st3 : tn 0 z3.heap := tu.keep _ _ _ st2 fun b _ o e => by rw [hp3]; exact Heap.get?_push_of_some _ e
  have J4 := block_start J3 ok hN f3
  have pg := pgs z3 (upd G2 D (.dT [])) z3.heap.objs.size (cellsFrom (z3.heap.objs.size + 1) scope.names (cloFrom X.env.cells scope.names [])) fp
  have pt := pts z3 (upd G2 D (.dT [])) z3.heap.objs.size (cellsFrom (z3.heap.objs.size + 1) scope.names (cloFrom X.env.cells scope.names [])) fp
  have pk := pks z3 (upd G2 D (.dT [])) z3.heap.objs.size (cellsFrom (z3.heap.objs.size + 1) scope.names (cloFrom X.env.cells scope.names [])) fp
  have pv' := pvs z3 (upd G2 D (.dT [])) z3.heap.objs.size (cellsFrom (z3.heap.objs.size + 1) scope.names (cloFrom X.env.cells scope.names [])) fp
  have none3 : ∀ b ∈ fp, (upd G2 D (.dT [])) b = none := fun b hb => (f3 b hb).1.1
  show codeAny _ _ (.compStart _ 0 (.ref it) (.ref D) (compEnvC scope (cellsFrom (z3.heap.objs.size + 1) scope.names (cloFrom X.env.cells scope.names [])) z3.heap.objs.size X.env)) (compPost (model X.prog X.w) X.A X.xe none _ (.ref D) z3.heap.objs.size) { z3 with heap := pushCells (z3.heap.push { cls := .type "dict", data := .dict #[] }) scope.names }
  generalize hce : compEnvC scope (cellsFrom (z3.heap.objs.size + 1) scope.names (cloFrom X.env.cells scope.names [])) z3.heap.objs.size X.env = ce at J4 pg pt pk pv' ⊢
  have ceL : ce.locals = z3.heap.objs.size := hce ▸ rfl
  generalize upd G2 D (.dT []) = G3 at J3 J4 pg pt pk pv' w0 none3 f3
  generalize e4 : ({ z3 with heap := pushCells (z3.heap.push { cls := .type "dict", data := .dict #[] }) scope.names } : Shared) = z4 at J4 ⊢
  have st4 : tn 0 z4.heap := tu.keep _ _ _ st3 fun b _ o e => by rw [← e4]; exact pushCells_keeps _ _ _ _ (Heap.get?_push_of_some _ e)
  have fixd : ∀ {τ : L2.St} {G : Hp} {z : Shared}, Inv (X.blk z3 G3 scope ce fp) [] τ G z → (∀ b ∈ fp, G b = none) → ∀ b ∈ fp, FpOk (X.blk z3 G3 scope ce fp) [] G b := fun {τ G z} I' hn b hb =>
    ⟨hn b hb, (I'.ok.exf b hb).1, I'.ok.exfs b hb, .inl hb, fun x c e => (I'.ok.exf b hb).2 x c e, fun p hp => by cases hp⟩
  refine (fun loop => codeAny_compStart_dict loop (tu.self X.A 0 _ _ _ st4 loop)) ?_
  refine compLoop_anyD (fun n z => ∃ i G, Inv (X.blk z3 G3 scope ce fp) [] (wipe σ (own.map (·.2))) G z ∧ tn i z.heap ∧ (∀ b ∈ fp, G b = none) ∧ W i n G) ?_ m0 ⟨0, G3, J4, st4, none3, w0⟩
  rintro n z5 ⟨i, G5, J5, st5, n5, w5⟩
  rcases turn i n G5 w5 with ⟨stop, qq⟩ | ⟨go, Nx, hNx, step⟩
  · refine thnF (tu.done (X.blk z3 G3 scope ce fp) rfl rfl rfl hc i [] z5 _ G5 (fun _ _ => False) J5 (fixd J5 n5) st5 stop) fun r z6 ⟨hr, J6⟩ => ?_
    subst hr
    have J7 : Inv X pins σ G5 z6 := J3.call' (ch := fp) J6.os J6.base J6.hok J6.bare fun b hb => ⟨(f3 b hb).1.2.2.2.1, (f3 b hb).1.2.1, (f3 b hb).1.2.2.2.2.1, (f3 b hb).1.2.2.2.2.2⟩
    have nC : G5 z3.heap.objs.size = none := ceL ▸ (show G5 ce.locals = none from J6.free)
    obtain ⟨m, hn, _⟩ := J6.loc
    have hn : z6.heap.Ns z3.heap.objs.size m := ceL ▸ (show z6.heap.Ns ce.locals m from hn)
    obtain ⟨g0, g1, g2, g3, g4, g5⟩ := J3.fpOk (Nat.le_refl _) nC
    exact ⟨m, hn, fun h'' sb => ⟨.ref D, G5, J7.turned (t' := z6.toks) (fun b o hb e => (sb.2 b hb).trans e) g0 g1 g3 g4 g5, rfl, qq⟩⟩
  · refine thnF (tu.item (X.blk z3 G3 scope ce fp) rfl rfl rfl hc i [] z5 _ G5 (fun _ _ => False) J5 (fixd J5 n5) st5 go) fun r z6 ⟨u, hr, k6⟩ => ?_
    subst hr
    refine thnF k6 fun _ z7 ⟨x, G7, J7, r7, y7, st7, n7⟩ => ?_
    refine thnF (pg.run _ z7 _ G7 x u _ (J7.pinned (fixd J7 n7) (tu.obj _ _ st7)) r7 (step x G7 y7)) fun _ z8 ⟨τ, G8, J8, hw, q8⟩ => ?_
    refine thnF (pt.run _ z8 τ G8 _ J8 q8) fun b z9 ⟨G9, J9, q9⟩ => ?_
    have fin : ∀ {z : Shared} {G : Hp}, Inv (X.blk z3 G3 scope ce fp) ([] ++ pinsAt fp z7.heap) τ G z → Nx G → ∃ m, m < n ∧ ∃ i G, Inv (X.blk z3 G3 scope ce fp) [] (wipe σ (own.map (·.2))) G z ∧ tn i z.heap ∧ (∀ b ∈ fp, G b = none) ∧ W i m G := fun {z G} I' nx => by
      obtain ⟨m', hm, w'⟩ := hNx G nx
      have kept : ∀ b ∈ fp, ∀ o, z7.heap.get? b = some o → z.heap.get? b = some o ∧ G b = none := fun b hb o e => by
        have z := I'.pin (b, o) (List.mem_append_right _ (List.mem_append_right _ (mem_pinsAt hb e)))
        exact ⟨z.1, z.2.1⟩
      refine ⟨m', hm, i + 1, G, (I'.unpinned (pins := [])).weak (by rw [← hw, wipe_length]) (fun j v e => (wipe_some (hw ▸ e : _)).1), tu.keep _ _ _ st7 fun b hb o e => (kept b hb o e).1, fun b hb => ?_, w'⟩
      obtain ⟨o, e, _⟩ := tu.obj _ _ st7 b hb
      exact (kept b hb o e).2
    cases b with
    | false =>
      simp only [Bool.false_eq_true, if_false] at q9 ⊢
      exact fin J9 q9
    | true =>
      simp only [if_true] at q9 ⊢
      refine thnF (pk.run _ z9 τ G9 _ J9 q9) fun _ z10 ⟨yk, G10, J10, r10, q10⟩ => thnF (pv'.run _ z10 τ G10 _ J10 q10) fun _ z11 ⟨yv, G11, J11, r11, kvs, k, b, Gn, eG, ek, eb, eD2, hz, nx⟩ => ?_
      exact gx_dset (X := X.blk z3 G3 scope ce fp) hu J11 ⟨kvs, k, b, eD2, ek, eb, hz, eG⟩ r10 r11 fun z12 J12 => fin J12 nx
end
end NL

set_option maxHeartbeats 4000000
namespace NL
open PySem PySem.Spec PyProof.Rows L2
/-! ### for over a list or a tuple -/
section
variable {X : Cx} {tg : Expr}
def iSeq (K : PySem.W.Frag) (tl : TE) : TI := fun σ H R => tl σ H fun x H1 => ∃ a, x = .ref a ∧ (((∃ xs, SqL K H1 a xs) ∧ R (Itl K a) H1) ∨ ((∃ xs, SqT K H1 a xs) ∧ R (Itt K a) H1))
theorem pi_seq {l : Expr} {tl : TE} (hl : PE X l tl) : PI X tg l (iSeq X.K tl) := by
  refine ⟨fun pins s σ H R I h => ?_⟩
  refine thn (hl.run pins s σ H _ I h) fun v s1 ⟨x, H1, I1, r1, q1⟩ => ?_
  obtain ⟨a, e, q⟩ := q1
  subst e
  cases r1
  rcases q with ⟨⟨xs, hq⟩, q⟩ | ⟨⟨xs, hq⟩, q⟩
  · obtain ⟨its, rv, p, hz⟩ := I1.list hq
    refine wpAny_pyIter_list p.isList ?_
    refine ⟨s1.heap.objs.size, [s1.heap.objs.size], _, _, H1, rfl, I1.kept (t' := s1.toks) fun b o e => Heap.get?_push_of_some _ e, turn_list a _, ⟨_, Heap.get?_push_size _ rfl, rfl, rfl⟩, fun b hb => ?_, q⟩
    have e : b = s1.heap.objs.size := by simpa using hb
    subst e
    exact I1.fpOk (Nat.le_refl _) (I1.hok.fresh (Nat.le_refl _))
  · obtain ⟨its, rv, p, hz⟩ := I1.tuple hq
    refine wpAny_pyIter_tuple (show s1.heap.IsTuple a its.toArray from p) ?_
    refine ⟨s1.heap.objs.size, [s1.heap.objs.size], _, _, H1, rfl, I1.kept (t' := s1.toks) fun b o e => Heap.get?_push_of_some _ e, turn_tuple a _, ⟨_, Heap.get?_push_size _ rfl, rfl, rfl⟩, fun b hb => ?_, q⟩
    have e : b = s1.heap.objs.size := by simpa using hb
    subst e
    exact I1.fpOk (Nat.le_refl _) (I1.hok.fresh (Nat.le_refl _))
end
end NL

set_option maxHeartbeats 4000000
namespace NL
open PySem PySem.Spec PyProof.Rows L2
theorem gx_seq {K : PySem.W.Frag} {a : Addr} {xs : List V} {H : Hp} {tl : TE} {σ : L2.St} {R : L2.It → Hp → Prop} (h : H a = some (.lst xs) ∨ H a = some (.tup xs)) (htl : ∀ C : V → Hp → Prop, C (.ref a) H → tl σ H C) (f : ∀ J : L2.It, Walk J xs.length (fun H' => H' a = H a) (YAt xs) → R J H) : iSeq K tl σ H R := by
  refine htl _ ⟨a, rfl, ?_⟩
  rcases h with h | h
  · have w : Walk (Itl K a) xs.length (fun H => SqL K H a xs) (YAt xs) := walk_list
    exact .inl ⟨⟨_, sqd h⟩, f _ ⟨fun i H' hi g => w.goes i H' hi (sqd (by rw [g]; exact h)), fun H' g => w.stops H' (sqd (by rw [g]; exact h)), fun i H' x H2 hi g => w.yields i H' x H2 hi (sqd (by rw [g]; exact h))⟩⟩
  · have w : Walk (Itt K a) xs.length (fun H => SqT K H a xs) (YAt xs) := walk_tup
    exact .inr ⟨⟨_, sqt h⟩, f _ ⟨fun i H' hi g => w.goes i H' hi (sqt (by rw [g]; exact h)), fun H' g => w.stops H' (sqt (by rw [g]; exact h)), fun i H' x H2 hi g => w.yields i H' x H2 hi (sqt (by rw [g]; exact h))⟩⟩
/-- for over a list or a tuple -/
theorem gx_forSeq {K : PySem.W.Frag} {a : Addr} {xs : List V} {g : TG} {tb : TS} {D : Ends} {σ : L2.St} {H : Hp} (h : H a = some (.lst xs) ∨ H a = some (.tup xs)) (Pv : Nat → L2.St → Hp → Prop) (h0 : Pv 0 σ H) (hG : ∀ i σ' H', Pv i σ' H' → H' a = H a)
    (hs : ∀ i x σ H, xs[i]? = some x → Pv i σ H → g x σ H fun σ2 H2 => tb { D with nx := Pv (i + 1), ct := Pv (i + 1), bk := D.nx } σ2 H2) (hd : ∀ σ H, Pv xs.length σ H → D.nx σ H) :
    ((∃ xs, SqL K H a xs) ∧ ∃ W : Nat → Nat → L2.St → Hp → Prop, (∃ m, W 0 m σ H) ∧ ∀ i m σ H, W i m σ H →
      ((Itl K a).stop i H ∧ D.nx σ H) ∨ ((Itl K a).go i H ∧ ∃ N : L2.St → Hp → Prop, (∀ σ' H', N σ' H' → ∃ m', m' < m ∧ W (i + 1) m' σ' H') ∧ ∀ x H', (Itl K a).yld i H x H' → g x σ H' fun σ2 H2 => tb { D with nx := N, ct := N, bk := D.nx } σ2 H2)) ∨
    ((∃ xs, SqT K H a xs) ∧ ∃ W : Nat → Nat → L2.St → Hp → Prop, (∃ m, W 0 m σ H) ∧ ∀ i m σ H, W i m σ H →
      ((Itt K a).stop i H ∧ D.nx σ H) ∨ ((Itt K a).go i H ∧ ∃ N : L2.St → Hp → Prop, (∀ σ' H', N σ' H' → ∃ m', m' < m ∧ W (i + 1) m' σ' H') ∧ ∀ x H', (Itt K a).yld i H x H' → g x σ H' fun σ2 H2 => tb { D with nx := N, ct := N, bk := D.nx } σ2 H2)) := by
  rcases h with h | h
  · exact .inl ⟨⟨_, sqd h⟩, for_list (xs := xs) Pv h0 (fun i σ' H' _ p => sqd (by rw [hG i σ' H' p]; exact h)) hs hd⟩
  · exact .inr ⟨⟨_, sqt h⟩, for_tup (xs := xs) Pv h0 (fun i σ' H' _ p => sqt (by rw [hG i σ' H' p]; exact h)) hs hd⟩
/-! ### readings -/
def rdF (R : List Int) (p : Int) : Int := R.getD p.toNat 0
theorem rdF_at {R : List Int} {p : Int} (h0 : 0 ≤ p) (h1 : p < (R.length : Int)) : atI (R.map V.int) p = some (V.int (rdF R p)) := by
  obtain ⟨k, rfl, hk⟩ : ∃ k : Nat, p = (k : Int) ∧ k < R.length := ⟨p.toNat, by omega, by omega⟩
  refine atI_nat ?_
  rw [List.getElem?_map, List.getElem?_eq_getElem hk]
  unfold rdF
  rw [Int.toNat_natCast, List.getD_eq_getElem?_getD, List.getElem?_eq_getElem hk]
  rfl
def grK (gs : List (Int × Addr)) : List (Key × V) := gs.map fun g => (Sum.inl g.1, V.ref g.2)
theorem grK_some : ∀ {gs : List (Int × Addr)} {r : Int} {v : V}, valV (grK gs) (Sum.inl r : Key) = some v → ∃ g ∈ gs, g.1 = r ∧ v = .ref g.2
  | [], r, v, h => by cases h
  | g :: t, r, v, h => by
    by_cases e : g.1 = r
    · have h : valV ((Sum.inl g.1, V.ref g.2) :: grK t) (Sum.inl r : Key) = some v := h
      rw [valV_pos (by rw [e])] at h
      exact ⟨g, List.mem_cons_self, e, (Option.some.inj h).symm⟩
    · have h : valV ((Sum.inl g.1, V.ref g.2) :: grK t) (Sum.inl r : Key) = some v := h
      rw [valV_neg (fun q => e (Sum.inl.inj q))] at h
      obtain ⟨g', h1, h2⟩ := grK_some h
      exact ⟨g', List.mem_cons_of_mem _ h1, h2⟩
theorem grK_none : ∀ {gs : List (Int × Addr)} {r : Int}, valV (grK gs) (Sum.inl r : Key) = none → r ∉ gs.map (·.1)
  | [], r, _, h => by cases h
  | g :: t, r, h, hm => by
    have h : valV ((Sum.inl g.1, V.ref g.2) :: grK t) (Sum.inl r : Key) = none := h
    by_cases e : g.1 = r
    · rw [valV_pos (by rw [e])] at h
      cases h
    · rw [valV_neg (fun q => e (Sum.inl.inj q))] at h
      rcases List.mem_cons.mp hm with h2 | h2
      · exact e h2.symm
      · exact grK_none h h2
theorem grK_get {gs : List (Int × Addr)} {g : Int × Addr} (hn : (gs.map (·.1)).Nodup) (hg : g ∈ gs) : valV (grK gs) (Sum.inl g.1 : Key) = some (.ref g.2) := by
  induction gs with
  | nil => cases hg
  | cons a t ih =>
    show valV ((Sum.inl a.1, V.ref a.2) :: grK t) (Sum.inl g.1 : Key) = _
    obtain ⟨h1, h2⟩ := List.nodup_cons.mp hn
    rcases List.mem_cons.mp hg with rfl | hg
    · exact valV_pos rfl
    · rw [valV_neg (fun q => h1 (List.mem_map.mpr ⟨g, hg, (Sum.inl.inj q).symm⟩))]
      exact ih h2 hg
/-- the groups at D: what was met of qs -/
structure GrS (rd : Int → Int) (H0 H : Hp) (D : Addr) (qs : List Int) (gs : List (Int × Addr)) : Prop where
  d : H D = some (.dK (grK gs))
  l : ∀ g ∈ gs, H g.2 = some (.lst ((qs.filter fun p => decide (rd p = g.1)).map V.int)) ∧ H0 g.2 = none ∧ g.2 ≠ D
  n1 : (gs.map (·.1)).Nodup
  n2 : (gs.map (·.2)).Nodup
  k : ∀ r, r ∈ gs.map (·.1) ↔ r ∈ qs.map rd
  s : Same H0 H
  few : gs.length ≤ qs.length
section
variable {rd : Int → Int} {H0 H : Hp} {D : Addr} {qs : List Int} {gs : List (Int × Addr)}
theorem gr_filter {p r : Int} : ((qs ++ [p]).filter fun q => decide (rd q = r)) = (qs.filter fun q => decide (rd q = r)) ++ if rd p = r then [p] else [] := by
  rw [List.filter_append, List.filter_cons, List.filter_nil]
  by_cases h : rd p = r
  · rw [if_pos h, if_pos (decide_eq_true h)]
  · rw [if_neg h, if_neg (by rw [decide_eq_false h]; exact Bool.false_ne_true)]
/-- one more of a group that is there -/
theorem GrS.old (G : GrS rd H0 H D qs gs) {l : Addr} (hl : H l = none) (hlD : l ≠ D) (p : Int) {g : Int × Addr} (hg : g ∈ gs) (e : g.1 = rd p) : GrS rd H0 (upd (upd H l (.lst [])) g.2 (.lst ((qs.filter fun q => decide (rd q = rd p)).map V.int ++ [V.int p]))) D (qs ++ [p]) gs := by
  have hgl : ∀ g' ∈ gs, g'.2 ≠ l := fun g' hg' z => by
    rw [← z, (G.l g' hg').1] at hl
    cases hl
  obtain ⟨_, hg0, hgD⟩ := G.l g hg
  refine ⟨by rw [upd_ne hgD.symm, upd_ne (Ne.symm hlD)]; exact G.d, fun g' hg' => ⟨?_, (G.l g' hg').2⟩, G.n1, G.n2, fun r => ?_, fun b o q => ?_, by rw [List.length_append]; exact Nat.le_trans G.few (Nat.le_add_right _ _)⟩
  · rw [gr_filter]
    by_cases h : g'.2 = g.2
    · have : g' = g := by
        obtain ⟨i, hi⟩ := List.getElem?_of_mem hg'
        obtain ⟨j, hj⟩ := List.getElem?_of_mem hg
        obtain ⟨i1, i2⟩ := List.getElem?_eq_some_iff.mp hi
        obtain ⟨j1, j2⟩ := List.getElem?_eq_some_iff.mp hj
        have hij : i = j := by
          have e1 : (gs.map (·.2))[i]'(by rw [List.length_map]; exact i1) = (gs.map (·.2))[j]'(by rw [List.length_map]; exact j1) := by
            rw [List.getElem_map, List.getElem_map, i2, j2, h]
          rcases Nat.lt_trichotomy i j with q | q | q
          · exact absurd e1 (List.pairwise_iff_getElem.mp G.n2 _ _ _ _ q)
          · exact q
          · exact absurd e1.symm (List.pairwise_iff_getElem.mp G.n2 _ _ _ _ q)
        subst hij
        rw [hi] at hj
        exact Option.some.inj hj
      rw [this, upd_same, e, if_pos rfl, List.map_append]
      rfl
    · have h3 : rd p ≠ g'.1 := fun q => h (by
        have h1 := grK_get G.n1 hg'
        have h2 := grK_get G.n1 hg
        rw [← q, ← e, h2] at h1
        exact (V.ref.inj (Option.some.inj h1)).symm)
      rw [upd_ne h, upd_ne (hgl g' hg'), if_neg h3, List.append_nil]
      exact (G.l g' hg').1
  · rw [G.k, List.map_append, List.mem_append]
    refine ⟨.inl, fun h => h.elim id fun h => ?_⟩
    have : r = rd p := by simpa using h
    rw [this, ← e]
    exact (G.k _).mp (List.mem_map.mpr ⟨g, hg, rfl⟩)
  · have h1 : b ≠ g.2 := fun z => by rw [z, hg0] at q; cases q
    have h2 : b ≠ l := fun z => by rw [z] at q; rw [G.s _ _ q] at hl; cases hl
    rw [upd_ne h1, upd_ne h2]
    exact G.s _ _ q
/-- the first of a group -/
theorem GrS.new (G : GrS rd H0 H D qs gs) {l : Addr} (hl : H l = none) (hlD : l ≠ D) (hD : H0 D = none) (p : Int) (hn : rd p ∉ gs.map (·.1)) : GrS rd H0 (upd (upd (upd H l (.lst [])) D (.dK (grK (gs ++ [(rd p, l)])))) l (.lst ([] ++ [V.int p]))) D (qs ++ [p]) (gs ++ [(rd p, l)]) := by
  have hl0 : H0 l = none := G.s.free hl
  have hgl : ∀ g' ∈ gs, g'.2 ≠ l := fun g' hg' z => by
    rw [← z, (G.l g' hg').1] at hl
    cases hl
  have nil : (qs.filter fun q => decide (rd q = rd p)) = [] := List.filter_eq_nil_iff.mpr fun q hq h => hn ((G.k _).mpr (List.mem_map.mpr ⟨q, hq, of_decide_eq_true h⟩))
  refine ⟨by rw [upd_ne hlD.symm, upd_same], fun g' hg' => ?_, ?_, ?_, fun r => ?_, fun b o q => ?_, by rw [List.length_append, List.length_append]; exact Nat.add_le_add_right G.few 1⟩
  · rcases List.mem_append.mp hg' with hg' | hg'
    · obtain ⟨h1, h2, h3⟩ := G.l g' hg'
      refine ⟨?_, h2, h3⟩
      have h4 : rd p ≠ g'.1 := fun q => hn (by rw [q]; exact List.mem_map.mpr ⟨g', hg', rfl⟩)
      rw [upd_ne (hgl g' hg'), upd_ne h3, upd_ne (hgl g' hg'), h1, gr_filter, if_neg h4, List.append_nil]
    · rw [List.mem_singleton.mp hg']
      refine ⟨?_, hl0, hlD⟩
      show upd _ l _ l = _
      rw [upd_same, gr_filter, if_pos rfl, nil]
      rfl
  · rw [List.map_append]
    refine List.nodup_append.mpr ⟨G.n1, by simp, fun a ha b hb e => hn ?_⟩
    have hb2 : b = rd p := by simpa using hb
    rw [← hb2, ← e]
    exact ha
  · rw [List.map_append]
    refine List.nodup_append.mpr ⟨G.n2, by simp, fun a ha b hb e => ?_⟩
    obtain ⟨g', hg', rfl⟩ := List.mem_map.mp ha
    exact hgl g' hg' (by rw [e]; simpa using hb)
  · rw [List.map_append, List.mem_append, G.k, List.map_append, List.mem_append]
    exact Iff.rfl
  · have h1 : b ≠ l := fun z => by rw [z, hl0] at q; cases q
    have h2 : b ≠ D := fun z => by rw [z, hD] at q; cases q
    rw [upd_ne h1, upd_ne h2, upd_ne h1]
    exact G.s _ _ q
end
section
variable {P : Program} {w : World} {K : PySem.W.Frag} {mg : Str → Option Value} {base : Heap}
def spParted : Sp := fun vs H Q _ => ∃ (pa ra : Addr) (ps R : List Int), vs = [.ref pa, .ref ra] ∧ (H pa = some (.lst (ps.map V.int)) ∨ H pa = some (.tup (ps.map V.int))) ∧ H ra = some (.tup (R.map V.int)) ∧ ps.length ≤ 60 ∧ (∀ p ∈ ps, 0 ≤ p ∧ p < (R.length : Int)) ∧
  ∀ l xs H', Same H H' → H l = none → H' l = some (.lst xs) → Each (OptIn H') (prt (rdF R) ps) xs → Q (.ref l) H'
theorem ok_parted (T : Txt K mg) : FnOk P w K mg base CX0 1 T.a_parted T.d_parted P_parted spParted := by
  refine T.F_parted.ok sc_parted (fun vs H Q E h => ?_) (fun cdv A outer s H vs Q E hr h => ?_)
  · obtain ⟨pa, ra, ps, R, rfl, _⟩ := h
    rfl
  obtain ⟨pa, ra, ps, R, rfl, hpa, hra, hpl, hpr, q⟩ := h
  refine ⟨_, (pss_cons (ps_set (i := 2) sc_parted.nd rfl (Or.inr rfl) pe_dnewK)
    (pss_cons (ps_for  PassesOwn.never rfl (pi_seq (pv 0)) (pg_name (i := 3) sc_parted.nd rfl (Or.inl rfl))
    (pss_one (ps_expr (pe_bm PySem.F.plainAttrs_list PySem.F.slot_list_append PySem.F.type_list_append mt_append (pe_dsetd (pv 2) (pe_ix ix_tup (pv 1) (pv 3) (fun _ _ => rfl)) (pe_lst pa_nil) ⟨rfl, rfl, rfl, rfl⟩) (pa_cons (pv 3) pa_nil)))))
    (pss_one (ps_ret (pe_lc (own := [("reading", 4)]) (g := (gName 4)) (tt := tYes) rfl sc_parted.nd (pi_list (pe_callB (call_sortedDI rfl) (by rfl) T.z_sorted (by decide +kernel) (pa_cons (pv 2) pa_nil))) (blkOk_by (N := N_parted) (sc := defScope s_parted) (by decide +kernel)) (fun _ _ _ _ _ => (pg_name (i := 4) sc_parted.nd rfl (Or.inl rfl))) (fun _ _ _ _ _ => pts_nil) (fun _ _ _ _ _ => (pe_callTy (call_tuple_ofK (K := K) rfl) (by rfl) T.z_tuple (by decide +kernel) (pa_cons (pe_dget (hu_of hr) (pv 2) (pv 4) (fun _ _ => rfl)) pa_nil)))))))), ?_⟩
  refine fun D hD => ?_
  obtain ⟨H1, e1, s1, k1⟩ := newH hD (.dK [])
  rw [e1]
  have hp1 : H1 pa = some (.lst (ps.map V.int)) ∨ H1 pa = some (.tup (ps.map V.int)) := hpa.elim (fun h => .inl (s1 _ _ h)) (fun h => .inr (s1 _ _ h))
  refine ⟨_, rfl, pa, rfl, ?_⟩
  refine gx_forSeq (K := K) (a := pa) (xs := ps.map V.int) hp1 (fun (j : Nat) (σ : L2.St) (H' : Hp) => ∃ (gs : List (Int × Addr)) (y3 y4 : Option V), σ = [some (.ref pa), some (.ref ra), some (.ref D), y3, y4] ∧ GrS (rdF R) H H' D (ps.take j) gs) ?_ ?_ ?_ ?_
  · exact ⟨[], none, none, rfl, k1, fun g hg => (nomatch hg), List.nodup_nil, List.nodup_nil, fun r => by simp, s1, Nat.zero_le _⟩
  · rintro j σ H' ⟨gs, y3, y4, rfl, G⟩
    rcases hpa with h | h
    · rw [G.s _ _ h, s1 _ _ h]
    · rw [G.s _ _ h, s1 _ _ h]
  · rintro j x σ H2 hx ⟨gs, y3, y4, rfl, G⟩
    rw [List.getElem?_map] at hx
    obtain ⟨p, hp, rfl⟩ := Option.map_eq_some_iff.mp hx
    obtain ⟨p0, p1⟩ := hpr p (List.mem_of_getElem? hp)
    have htk : ps.take (j + 1) = ps.take j ++ [p] := by rw [List.take_add_one, hp]; rfl
    have hjl := (List.getElem?_eq_some_iff.mp hp).1
    have hfl : ∀ r, ((ps.take j).filter fun q => decide (rdF R q = r)).length ≤ 60 := fun r => by
      have h1 := List.length_filter_le (fun q => decide (rdF R q = r)) (ps.take j)
      rw [List.length_take] at h1
      omega
    refine ⟨_, rfl, D, rfl, .inl ⟨_, .inl G.d⟩, _, rfl, _, rfl, ra, _, _, _, rfl, rfl, sqt (G.s _ _ hra), rdF_at p0 p1, Nat.zero_le _, fun l hl => ?_⟩
    have hlD : l ≠ D := fun z => by rw [z, G.d] at hl; cases hl
    refine ⟨_, Sum.inl (rdF R p), by rw [upd_ne (Ne.symm hlD)]; exact G.d, rfl, big' (by unfold grK; rw [List.length_map]; have := G.few; rw [List.length_take] at this; omega), fun v hv => ?_, fun hv => ?_⟩
    · obtain ⟨g, hg, e1, rfl⟩ := grK_some hv
      have hgl : g.2 ≠ l := fun z => by rw [← z, (G.l g hg).1] at hl; cases hl
      have hgk : upd H2 l (.lst []) g.2 = some (.lst (((ps.take j).filter fun q => decide (rdF R q = rdF R p)).map V.int)) := by rw [upd_ne hgl, (G.l g hg).1, e1]
      refine ⟨.inl ⟨rfl, _, sqd hgk⟩, _, rfl, g.2, _, _, rfl, rfl, hgk, big' (by rw [List.length_map]; have := hfl (rdF R p); omega), ?_⟩
      refine ⟨gs, _, _, rfl, ?_⟩
      rw [htk]
      exact G.old hl hlD p hg e1
    · have hn := grK_none hv
      rw [putK_new _ hv]
      have hl3 : upd (upd H2 l (.lst [])) D (.dK (grK gs ++ [(Sum.inl (rdF R p), V.ref l)])) l = some (.lst []) := by rw [upd_ne hlD, upd_same]
      refine ⟨.inl ⟨rfl, _, sqd hl3⟩, _, rfl, l, _, _, rfl, rfl, hl3, Nat.zero_lt_of_lt (big' (n := 1) (by decide)), ?_⟩
      refine ⟨gs ++ [(rdF R p, l)], _, _, rfl, ?_⟩
      rw [htk]
      have := G.new hl hlD hD p hn
      rw [show grK (gs ++ [(rdF R p, l)]) = grK gs ++ [(Sum.inl (rdF R p), V.ref l)] by unfold grK; rw [List.map_append]; rfl] at this
      exact this
  · rintro σ H2 ⟨gs, y3, y4, rfl, G⟩
    rw [List.length_map, List.take_length] at G
    have hgl := G.few
    refine ⟨_, rfl, D, _, gs.map (·.1), rfl, .inl G.d, by unfold grK; rw [List.map_map, List.map_map]; rfl, by rw [List.length_map]; omega, fun ys sp hperm hpw hsp => ?_⟩
    have hasc : Asc ys := asc_of hperm G.n1 hpw
    have hys : ys = srt (ps.map (rdF R)) := srt_is hasc fun x => by rw [hperm.mem_iff, G.k]
    obtain ⟨H3, e3, s3, k3⟩ := newH hsp (.lst (ys.map V.int))
    rw [e3]
    have s03 := G.s.trans s3
    have kD := s3 _ _ G.d
    have hyl : ys.length ≤ 60 := by rw [hperm.length_eq, List.length_map]; omega
    refine ⟨sp, rfl, ⟨_, sqd k3⟩, fun l hl => ?_⟩
    refine lc_list (K := K) (a := sp) (xs := ys.map V.int) (fun (j : Nat) (H' : Hp) => Same H3 H' ∧ ∃ xs, H' l = some (.lst xs) ∧ Each (OptIn H') ((ys.take j).map fun r => ps.filter fun p => decide (rdF R p = r)) xs) ?_ ?_ ?_ ?_
    · exact ⟨same_new hl _, [], upd_same, .nil⟩
    · rintro j H' _ ⟨s4, _⟩
      exact sqd (s4 _ _ k3)
    · rintro j x H4 hx ⟨s4, xs, k4, hxs⟩
      rw [List.getElem?_map] at hx
      obtain ⟨r, hr', rfl⟩ := Option.map_eq_some_iff.mp hx
      obtain ⟨g, hg, hgr⟩ := List.mem_map.mp (hperm.mem_iff.mp (List.mem_of_getElem? hr'))
      have hgl' := (G.l g hg).1
      have hgr : g.1 = r := hgr
      rw [hgr] at hgl'
      have hv := grK_get G.n1 hg
      rw [hgr] at hv
      have hxl := hxs.1
      have hjl := (List.getElem?_eq_some_iff.mp hr').1
      rw [List.length_map, List.length_take] at hxl
      refine ⟨rfl, yes_if ?_⟩
      refine ⟨_, rfl, _, rfl, D, V.ref g.2, rfl, .inl ⟨_, Sum.inl r, .inl (s4 _ _ kD), rfl, hv.symm⟩, g.2, _, rfl, .inl ⟨sqd (s4 _ _ (s3 _ _ hgl')), fun t ht => ?_⟩⟩
      have s5 := same_new ht (.tup ((ps.filter fun p => decide (rdF R p = r)).map V.int))
      have k5 := s5 _ _ k4
      refine ⟨xs, k5, big' (by omega), same_put (s4.trans s5) hl, xs ++ [.ref t], upd_same, ?_⟩
      have htl : t ≠ l := fun z => by rw [z, k4] at ht; cases ht
      rw [List.take_add_one, hr', List.map_append]
      refine (hxs.mono fun o x => OptIn.tp (tp_put (Tp.same s5) k5)).snoc ⟨t, rfl, ?_⟩
      rw [upd_ne htl]
      exact upd_same
    · rintro H4 ⟨s4, xs, k4, hxs⟩
      rw [List.length_map, List.take_length] at hxs
      refine q l xs H4 (s03.trans s4) (s03.free hl) k4 ?_
      unfold prt
      rw [← hys]
      exact hxs
end
end NL

set_option maxHeartbeats 4000000
namespace NL
open PySem PySem.Spec PyProof.Rows L2
/-! ### _successors_of -/
theorem insU_new {x : Int} : ∀ {l : List Int}, x ∉ l → (insU x l).length = l.length + 1
  | [], _ => rfl
  | a :: r, h => by
    unfold insU
    split
    · rfl
    · split
      · rename_i e
        exact absurd (e ▸ List.mem_cons_self) h
      · rw [List.length_cons, insU_new (fun q => h (List.mem_cons_of_mem _ q))]
        rfl
theorem srt_len_nd : ∀ {l : List Int}, l.Nodup → (srt l).length = l.length
  | [], _ => rfl
  | a :: r, h => by
    obtain ⟨h1, h2⟩ := List.nodup_cons.mp h
    show (insU a (srt r)).length = _
    rw [insU_new (fun q => h1 (mem_srt.mp q)), srt_len_nd h2]
    rfl
theorem nd_short {l : List Int} {lo hi : Int} (h : l.Nodup) (hb : ∀ x ∈ l, lo ≤ x ∧ x < hi) (hlh : lo ≤ hi) : (l.length : Int) ≤ hi - lo := by
  rw [← srt_len_nd h]
  exact asc_short asc_srt (fun x hx => hb x (mem_srt.mp hx)) hlh
theorem keys_put {kvs : List (Key × V)} {ks : List Int} (h : kvs.map (·.1) = ks.map fun x => (Sum.inl x : Key)) (p : Int) (v : V) : (putK kvs (Sum.inl p : Key) v).map (·.1) = (if p ∈ ks then ks else ks ++ [p]).map fun x => (Sum.inl x : Key) := by
  have hany : (kvs.any fun kv => decide (kv.1 = (Sum.inl p : Key))) = decide (p ∈ ks) := by
    have e : (kvs.any fun kv => decide (kv.1 = (Sum.inl p : Key))) = (kvs.map (·.1)).any fun k => decide (k = (Sum.inl p : Key)) := by
      rw [List.any_map]
      rfl
    rw [e, h, List.any_map]
    refine Bool.eq_iff_iff.mpr ?_
    rw [List.any_eq_true, decide_eq_true_iff]
    constructor
    · rintro ⟨x, hx, e⟩
      have := Sum.inl.inj (of_decide_eq_true e)
      exact this ▸ hx
    · intro hp
      exact ⟨p, hp, decide_eq_true rfl⟩
  unfold putK
  rw [hany]
  by_cases hp : p ∈ ks
  · rw [if_pos (decide_eq_true hp), if_pos hp, List.map_map, ← h]
    refine List.map_congr_left fun kv _ => ?_
    show (if kv.1 = _ then (kv.1, v) else kv).1 = kv.1
    split <;> rfl
  · rw [if_neg (by rw [decide_eq_false hp]; exact Bool.false_ne_true), if_neg hp, List.map_append, List.map_append, h]
    rfl
structure KsD (H0 H : Hp) (D : Addr) (acc : List Int) : Prop where
  d : ∃ (kvs : List (Key × V)) (ks : List Int), H D = some (.dK kvs) ∧ kvs.map (·.1) = ks.map (fun x => (Sum.inl x : Key)) ∧ ks.Nodup ∧ ∀ x, x ∈ ks ↔ x ∈ acc
  s : Same H0 H
section
variable {P : Program} {w : World} {K : PySem.W.Frag} {mg : Str → Option Value} {base : Heap}
def spSuccs : Sp := fun vs H Q _ => ∃ (av : V) (ka : Addr) (A : Ar) (Kk : List Int) (i : Nat), vs = [av, .ref ka, .int (i : Nat)] ∧ ArIn H A av ∧ ArG A ∧ A.length ≤ 46 ∧ H ka = some (.tup (Kk.map V.int)) ∧ (∀ p ∈ Kk, 0 ≤ p ∧ p < (A.length : Int)) ∧ (∀ p ∈ Kk, i < lenOf A p) ∧
  ∀ l H', Same H H' → H l = none → H' l = some (.lst ((succs A Kk i).map V.int)) → Q (.ref l) H'
theorem ok_successors_of (T : Txt K mg) : FnOk P w K mg base CX0 1 T.a_successors_of T.d_successors_of P_successors_of spSuccs := by
  refine T.F_successors_of.ok sc_successors_of (fun vs H Q E h => ?_) (fun cdv A outer s H vs Q E hr h => ?_)
  · obtain ⟨av, ka, A, Kk, i, rfl, _⟩ := h
    rfl
  obtain ⟨av, ka, A0, Kk, i, rfl, ⟨b0, zs, rfl, e0, hzs⟩, hG, hn, hka, hKr, hKi, q⟩ := h
  refine ⟨_, (pss_cons (ps_set (i := 3) sc_successors_of.nd rfl (Or.inl rfl) pe_dnewK)
    (pss_cons (ps_for  PassesOwn.never rfl (pi_tup (pv 1)) (pg_name (i := 4) sc_successors_of.nd rfl (Or.inl rfl))
    (pss_one (ps_for  PassesOwn.never rfl (pi_tup (pe_ix ix_tup (pe_ix ix_tup (pv 0) (pv 4) (fun _ _ => rfl)) (pv 2) (fun _ _ => rfl))) (pg_name (i := 5) sc_successors_of.nd rfl (Or.inl rfl))
    (pss_one (ps_dput (hu_of hr) (pv 3) (pv 5) pe_bl rfl)))))
    (pss_one (ps_ret (pe_callB (call_sortedDI rfl) (by rfl) T.z_sorted (by decide +kernel) (pa_cons (pv 3) pa_nil)))))), ?_⟩
  refine fun D hD => ?_
  obtain ⟨H1, e1, s1, k1⟩ := newH hD (.dK [])
  rw [e1]
  have sm : ∀ acc : List Int, (∀ x ∈ acc, -1 ≤ x ∧ x < (A0.length : Int)) → ∀ ks : List Int, ks.Nodup → (∀ x, x ∈ ks ↔ x ∈ acc) → ks.length ≤ 47 := fun acc ha ks hk hm => by
    have := nd_short (lo := -1) (hi := (A0.length : Int)) hk (fun x hx => ha x ((hm x).mp hx)) (by omega)
    omega
  have hin : ∀ j, ∀ x ∈ (Kk.take j).flatMap (fun p => optOf A0 p i), -1 ≤ x ∧ x < (A0.length : Int) := fun j x hx => by
    obtain ⟨p, hp, hx⟩ := List.mem_flatMap.mp hx
    have hp := List.mem_of_mem_take hp
    obtain ⟨os, o, _, _, e, _, hO, _⟩ := optOf_g hG (hKr p hp).1 (hKr p hp).2 (hKi p hp)
    rw [e] at hx
    exact hO.mem x hx
  refine ⟨_, rfl, ka, rfl, ⟨_, sqt (s1 _ _ hka)⟩, for_tup (K := K) (a := ka) (xs := Kk.map V.int) (fun (j : Nat) (σ : L2.St) (H' : Hp) => ∃ (y4 y5 : Option V), σ = [some (.ref b0), some (.ref ka), some (.int (i : Nat)), some (.ref D), y4, y5] ∧ KsD H H' D ((Kk.take j).flatMap fun p => optOf A0 p i)) ?_ ?_ ?_ ?_⟩
  · exact ⟨none, none, rfl, ⟨[], [], k1, rfl, List.nodup_nil, fun x => by simp⟩, s1⟩
  · rintro j σ H' _ ⟨y4, y5, rfl, G⟩
    exact sqt (G.s _ _ hka)
  · rintro j x σ H2 hx ⟨y4, y5, rfl, G⟩
    rw [List.getElem?_map] at hx
    obtain ⟨p, hp, rfl⟩ := Option.map_eq_some_iff.mp hx
    have hpm := List.mem_of_getElem? hp
    obtain ⟨p0, p1⟩ := hKr p hpm
    have hpi := hKi p hpm
    obtain ⟨os, o, hos, ho, eo, el, hO, _⟩ := optOf_g hG p0 p1 hpi
    obtain ⟨os', x, hos', hat, b1, ys, rfl, eb1, hys⟩ := hzs.atI p0 p1
    rw [hos] at hos'
    cases hos'
    obtain ⟨y, hy, b2, rfl, eb2⟩ := hys.at ho
    have hol : o.length ≤ 60 := hO.len
    refine ⟨_, rfl, _, rfl, b0, _, _, _, rfl, rfl, sqt (G.s _ _ e0), hat, _, rfl, b1, _, _, _, rfl, rfl, sqt (G.s _ _ eb1), atI_nat hy, b2, rfl, ⟨_, sqt (G.s _ _ eb2)⟩, ?_⟩
    refine for_tup (K := K) (a := b2) (xs := o.map V.int) (fun (t : Nat) (σ : L2.St) (H' : Hp) => ∃ (y5 : Option V), σ = [some (.ref b0), some (.ref ka), some (.int (i : Nat)), some (.ref D), some (.int p), y5] ∧ KsD H H' D ((Kk.take j).flatMap (fun p => optOf A0 p i) ++ o.take t)) ?_ ?_ ?_ ?_
    · exact ⟨_, rfl, by rw [List.take_zero, List.append_nil]; exact G⟩
    · rintro t σ H' _ ⟨y5, rfl, G2⟩
      exact sqt (G2.s _ _ eb2)
    · rintro t x σ H3 hx2 ⟨y5, rfl, G2⟩
      rw [List.getElem?_map] at hx2
      obtain ⟨c, hc, rfl⟩ := Option.map_eq_some_iff.mp hx2
      obtain ⟨kvs, ks, kD, hk1, hk2, hk3⟩ := G2.d
      have hkl := sm _ (fun x hx => by
        rcases List.mem_append.mp hx with hx | hx
        · exact hin j x hx
        · exact hO.mem x (List.mem_of_mem_take hx)) ks hk2 hk3
      have hkvl : kvs.length = ks.length := by
        have := congrArg List.length hk1
        rw [List.length_map, List.length_map] at this
        exact this
      refine ⟨_, rfl, _, rfl, D, _, rfl, DPut.k (k := Sum.inl c) kD (big' (by omega)), ?_⟩
      refine ⟨_, rfl, ⟨_, if c ∈ ks then ks else ks ++ [c], upd_same, keys_put hk1 c _, ?_, fun x => ?_⟩, same_put G2.s hD⟩
      · by_cases h : c ∈ ks
        · rw [if_pos h]
          exact hk2
        · rw [if_neg h]
          exact List.nodup_append.mpr ⟨hk2, by simp, fun a ha b hb e => h (by rw [← List.mem_singleton.mp hb, ← e]; exact ha)⟩
      · have h1 : x ∈ (if c ∈ ks then ks else ks ++ [c]) ↔ x ∈ ks ∨ x = c := by
          by_cases h : c ∈ ks
          · rw [if_pos h]
            exact ⟨.inl, fun q => q.elim id fun e => e ▸ h⟩
          · rw [if_neg h, List.mem_append, List.mem_singleton]
        rw [h1, hk3, List.take_add_one, hc, List.mem_append, List.mem_append, List.mem_append, or_assoc]
        simp
    · rintro σ H3 ⟨y5, rfl, G2⟩
      rw [List.length_map, List.take_length] at G2
      refine ⟨_, _, rfl, ?_⟩
      rw [List.take_add_one, hp, List.flatMap_append]
      simpa [eo] using G2
  · rintro σ H2 ⟨y4, y5, rfl, G⟩
    rw [List.length_map, List.take_length] at G
    obtain ⟨kvs, ks, kD, hk1, hk2, hk3⟩ := G.d
    have hkl := sm _ (fun x hx => hin Kk.length x (by rw [List.take_length]; exact hx)) ks hk2 hk3
    refine ⟨_, rfl, D, kvs, ks, rfl, .inl kD, hk1, by omega, fun ys l hperm hpw hl => ?_⟩
    have hasc : Asc ys := asc_of hperm hk2 hpw
    refine q l _ (G.s.trans (same_new hl _)) (G.s.free hl) ?_
    rw [upd_same]
    have : ys = succs A0 Kk i := srt_is hasc fun x => by rw [hperm.mem_iff, hk3]; rfl
    rw [this]
end
end NL

set_option maxHeartbeats 4000000
namespace NL
open PySem PySem.Spec PyProof.Rows L2
/-! ### known_arena -/
theorem dcT_it {J : L2.It} {n : Nat} {G : Hp → Prop} {Y : Nat → Hp → V → Hp → Prop} (w : Walk J n G Y) {g : TG} {tt : TT} {tk tv : TE} {vs : List Nat} {σ : L2.St} {H1 : Hp} {D : Addr} {Qd : Hp → Prop} (Pv : Nat → Hp → Prop) (h0 : Pv 0 (upd H1 D (.dT []))) (hq : ∀ i H, i ≤ n → Pv i H → G H)
    (hs : ∀ (i : Nat) (x : V) (H H' : Hp), i < n → Pv i H → Y i H x H' → g x (wipe σ vs) H' fun σ2 H2 => wipe σ2 vs = wipe σ vs ∧ tt σ2 H2 fun c H3 =>
      if c = true then tk σ2 H3 fun y H4 => tv σ2 H4 fun z H5 => ∃ kvs k b Gn, Gn = upd H5 D (.dT (putK kvs k z)) ∧ y = .ref b ∧ H5 b = some (.tup (k.map kV)) ∧ H5 D = some (.dT kvs) ∧ kvs.length < sizeLine ∧ Pv (i + 1) Gn else Pv (i + 1) H3) (hd : ∀ H, Pv n H → Qd H) :
    ∃ W : Nat → Nat → Hp → Prop, (∃ m, W 0 m (upd H1 D (.dT []))) ∧ ∀ i m H, W i m H →
      (J.stop i H ∧ Qd H) ∨ (J.go i H ∧ ∃ Nx : Hp → Prop, (∀ H', Nx H' → ∃ m', m' < m ∧ W (i + 1) m' H') ∧ ∀ x H', J.yld i H x H' → g x (wipe σ vs) H' fun σ2 H2 => wipe σ2 vs = wipe σ vs ∧ tt σ2 H2 fun c H3 =>
        if c = true then tk σ2 H3 fun y H4 => tv σ2 H4 fun z H5 => ∃ kvs k b Gn, Gn = upd H5 D (.dT (putK kvs k z)) ∧ y = .ref b ∧ H5 b = some (.tup (k.map kV)) ∧ H5 D = some (.dT kvs) ∧ kvs.length < sizeLine ∧ Nx Gn else Nx H3) := by
  refine ⟨fun i m H => m + i = n ∧ Pv i H, ⟨n, rfl, h0⟩, ?_⟩
  rintro i m H ⟨hi, p⟩
  have hG := hq i H (by omega) p
  by_cases lt : i < n
  · exact .inr ⟨w.goes i H lt hG, Pv (i + 1), fun H' p' => ⟨m - 1, by omega, by omega, p'⟩, fun v H' y => hs i v H H' lt p (w.yields i H v H' lt hG y)⟩
  · have e : i = n := by omega
    subst e
    exact .inl ⟨w.stops H hG, hd H p⟩
def gk (g : List Int) : List Key := g.map fun x => (Sum.inl x : Key)
theorem gk_V (g : List Int) : (gk g).map kV = g.map V.int := by
  unfold gk
  rw [List.map_map]
  rfl
theorem gk_inj : ∀ {g h : List Int}, gk g = gk h → g = h
  | [], [], _ => rfl
  | [], b :: h, e => by cases e
  | a :: g, [], e => by cases e
  | a :: g, b :: h, e => by
    have e : (Sum.inl a : Key) :: gk g = (Sum.inl b : Key) :: gk h := e
    injection e with e1 e2
    rw [Sum.inl.inj e1, gk_inj e2]
/-- the dict of the sets' numbers -/
def NumOk (kvs : List (List Key × V)) (S : List (List Int)) : Prop := ∀ g : List Int, valV kvs (gk g) = if g ∈ S then some (.int (nr S g : Nat)) else none
theorem NumOk.nil : NumOk [] [] := fun g => rfl
theorem NumOk.put {kvs : List (List Key × V)} {S : List (List Int)} (h : NumOk kvs S) {g : List Int} (hg : g ∉ S) : NumOk (putK kvs (gk g) (.int (S.length : Nat))) (S ++ [g]) := fun k => by
  rw [valV_put, h k]
  by_cases e : k = g
  · subst e
    rw [if_pos rfl, if_pos (by simp), nr_new hg]
  · rw [if_neg (fun q => e (gk_inj q))]
    by_cases hk : k ∈ S
    · rw [if_pos hk, if_pos (List.mem_append_left _ hk), nr_app hk]
    · rw [if_neg hk, if_neg (fun q => (List.mem_append.mp q).elim hk fun q => e (List.mem_singleton.mp q))]
def KnIn (H : Hp) (F : Ar) (S : List (List Int)) (v : V) : Prop := ∃ b x y, v = .ref b ∧ H b = some (.tup [x, y]) ∧ ArIn H F x ∧ PosIn H S y
/-- the objects of known_arena that change: the sets, their numbers, the options found -/
structure KnS (H0 H : Hp) (sl N ko : Addr) (S : List (List Int)) (F : Ar) : Prop where
  ls : ∃ xs, H sl = some (.lst xs) ∧ Each (OptIn H) S xs
  nm : ∃ kvs, H N = some (.dT kvs) ∧ NumOk kvs S ∧ kvs.length ≤ S.length
  lo : ∃ zs, H ko = some (.lst zs) ∧ Each (PosIn H) F zs
  f1 : H0 sl = none
  f2 : H0 N = none
  f3 : H0 ko = none
  s : Same H0 H
theorem KnS.same {H0 H H' : Hp} {sl N ko : Addr} {S : List (List Int)} {F : Ar} (h : KnS H0 H sl N ko S F) (s : Same H H') : KnS H0 H' sl N ko S F := by
  obtain ⟨xs, h1, h2⟩ := h.ls
  obtain ⟨kvs, h3, h4, h5⟩ := h.nm
  obtain ⟨zs, h6, h7⟩ := h.lo
  exact ⟨⟨xs, s _ _ h1, h2.mono fun o x => OptIn.tp (Tp.same s)⟩, ⟨kvs, s _ _ h3, h4, h5⟩, ⟨zs, s _ _ h6, h7.mono fun o x => PosIn.tp (Tp.same s)⟩, h.f1, h.f2, h.f3, h.s.trans s⟩
theorem KnS.ne {H0 H : Hp} {sl N ko : Addr} {S : List (List Int)} {F : Ar} (h : KnS H0 H sl N ko S F) : sl ≠ N ∧ N ≠ ko := by
  obtain ⟨xs, h1, _⟩ := h.ls
  obtain ⟨kvs, h3, _⟩ := h.nm
  obtain ⟨zs, h6, _⟩ := h.lo
  exact ⟨fun e => (by rw [e, h3] at h1; cases h1), fun e => (by rw [e, h6] at h3; cases h3)⟩
/-- a new set: its number, and behind the others -/
theorem KnS.add {H0 H : Hp} {sl N ko : Addr} {S : List (List Int)} {F : Ar} (h : KnS H0 H sl N ko S F) (hsk : sl ≠ ko) {g : List Int} (hg : g ∉ S) {xs : List V} {kvs : List (List Key × V)} {b : Addr} (hxs : H sl = some (.lst xs)) (hk : H N = some (.dT kvs)) (hb : H b = some (.tup (g.map V.int))) :
    KnS H0 (upd (upd H N (.dT (putK kvs (gk g) (.int (S.length : Nat))))) sl (.lst (xs ++ [.ref b]))) sl N ko (S ++ [g]) F := by
  obtain ⟨n1, n2⟩ := h.ne
  obtain ⟨xs', h1, h2⟩ := h.ls
  rw [hxs] at h1
  cases h1
  obtain ⟨kvs', h3, h4, h5⟩ := h.nm
  rw [hk] at h3
  cases h3
  obtain ⟨zs, h6, h7⟩ := h.lo
  have tp : Tp H (upd (upd H N (.dT (putK kvs (gk g) (.int (S.length : Nat))))) sl (.lst (xs ++ [.ref b]))) := fun a ys e => by
    rw [upd_ne (fun q => by rw [q, hxs] at e; cases e), upd_ne (fun q => by rw [q, hk] at e; cases e)]
    exact e
  refine ⟨⟨_, upd_same, (h2.mono fun o x => OptIn.tp tp).snoc ⟨b, rfl, tp _ _ hb⟩⟩, ⟨_, by rw [upd_ne n1.symm, upd_same], h4.put hg, ?_⟩, ⟨zs, by rw [upd_ne hsk.symm, upd_ne n2.symm]; exact h6, h7.mono fun o x => PosIn.tp tp⟩, h.f1, h.f2, h.f3, fun a o e => ?_⟩
  · have := length_putK kvs (gk g) (V.int (S.length : Nat))
    rw [List.length_append, List.length_singleton]
    omega
  · rw [upd_ne (fun q => by rw [q, h.f1] at e; cases e), upd_ne (fun q => by rw [q, h.f2] at e; cases e)]
    exact h.s _ _ e
/-- one more row of options -/
theorem KnS.row {H0 H : Hp} {sl N ko : Addr} {S : List (List Int)} {F : Ar} (h : KnS H0 H sl N ko S F) (hsk : sl ≠ ko) {os : Pos'} {zs : List V} {t : Addr} {ys : List V} (hzs : H ko = some (.lst zs)) (ht : H t = some (.tup ys)) (hys : Each (OptIn H) os ys) :
    KnS H0 (upd H ko (.lst (zs ++ [.ref t]))) sl N ko S (F ++ [os]) := by
  obtain ⟨n1, n2⟩ := h.ne
  obtain ⟨xs, h1, h2⟩ := h.ls
  obtain ⟨kvs, h3, h4, h5⟩ := h.nm
  obtain ⟨zs', h6, h7⟩ := h.lo
  rw [hzs] at h6
  cases h6
  have tp : Tp H (upd H ko (.lst (zs ++ [.ref t]))) := fun a ys e => by
    rw [upd_ne (fun q => by rw [q, hzs] at e; cases e)]
    exact e
  exact ⟨⟨xs, by rw [upd_ne hsk]; exact h1, h2.mono fun o x => OptIn.tp tp⟩, ⟨kvs, by rw [upd_ne n2]; exact h3, h4, h5⟩, ⟨_, upd_same, (h7.mono fun o x => PosIn.tp tp).snoc ⟨t, ys, rfl, tp _ _ ht, hys.mono fun o x => OptIn.tp tp⟩⟩, h.f1, h.f2, h.f3, fun a o e => by
    rw [upd_ne (fun q => by rw [q, h.f3] at e; cases e)]
    exact h.s _ _ e⟩
theorem KnS.put {H0 H : Hp} {sl N ko ol : Addr} {S : List (List Int)} {F : Ar} (h : KnS H0 H sl N ko S F) (h1 : sl ≠ ol) (h2 : N ≠ ol) (h3 : ko ≠ ol) (h0 : H0 ol = none) {ys zs : List V} (hy : H ol = some (.lst ys)) : KnS H0 (upd H ol (.lst zs)) sl N ko S F := by
  obtain ⟨xs, a1, a2⟩ := h.ls
  obtain ⟨kvs, a3, a4, a5⟩ := h.nm
  obtain ⟨zs', a6, a7⟩ := h.lo
  have tp : Tp H (upd H ol (.lst zs)) := tp_put Tp.refl hy
  exact ⟨⟨xs, by rw [upd_ne h1]; exact a1, a2.mono fun o x => OptIn.tp tp⟩, ⟨kvs, by rw [upd_ne h2]; exact a3, a4, a5⟩, ⟨zs', by rw [upd_ne h3]; exact a6, a7.mono fun o x => PosIn.tp tp⟩, h.f1, h.f2, h.f3, same_put h.s h0⟩
theorem gx_out {c : Bool} {ta tb : TE} {σ : L2.St} {H : Hp} {Q : VK} (R : Addr → Hp → Prop) (ha : c = true → ∀ C : VK, (∀ p H', R p H' → C (.ref p) H') → ta σ H C) (hb : c = false → ∀ C : VK, (∀ p H', R p H' → C (.ref p) H') → tb σ H C) (q : ∀ p H', R p H' → Q (.ref p) H') : if c = true then ta σ H Q else tb σ H Q := by
  cases c with
  | true => exact ifT rfl (ha rfl Q q)
  | false => exact ifF rfl (hb rfl Q q)
/-- at most 300 sets -/
def Few (rd : Int → Int) (n : Int) : Prop := ∀ S : List (List Int), S.Nodup → (∀ g ∈ S, KS rd n g) → S.length ≤ 300
/-- at most 300 sets are found -/
def FewK (A : Ar) (rd : Int → Int) (st : List Int) : Prop := ∀ n, (kn A rd st n).1.length ≤ 300
theorem few_k {A : Ar} {rd : Int → Int} {st : List Int} (hG : ArG A) (hs : Asc st) (hm : ∀ p ∈ st, 0 ≤ p ∧ p < (A.length : Int)) (h : Few rd (A.length : Int)) : FewK A rd st := fun n => h _ (kn_inv (rd := rd) hG hs hm n).nd (kn_inv (rd := rd) hG hs hm n).ks
theorem FewK.of {A : Ar} {rd : Int → Int} {st : List Int} {F : Ar} {S : List (List Int)} (h : FewK A rd st) (hk : IsKn A rd st F S) : S.length ≤ 300 := by
  obtain ⟨n, h1, _⟩ := hk
  have := h n
  rw [h1] at this
  exact this
theorem kn_none (A : Ar) (rd : Int → Int) : ∀ n, kn A rd [] n = ([], [])
  | 0 => rfl
  | n + 1 => by
    show stp A rd (kn A rd [] n) = _
    rw [kn_none A rd n]
    rfl
theorem addS_two : ∀ (G1 G2 S : List (List Int)), addS S (G1 ++ G2) = addS (addS S G1) G2
  | [], _, _ => rfl
  | _ :: r, G2, S => addS_two r G2 _
section
variable {P : Program} {w : World} {K : PySem.W.Frag} {mg : Str → Option Value} {base : Heap}
def spKnown : Sp := fun vs H Q _ => ∃ (av : V) (ra sa : Addr) (A : Ar) (R st : List Int), vs = [av, .ref ra, .ref sa] ∧ ArIn H A av ∧ ArG A ∧ A.length ≤ 46 ∧ H ra = some (.tup (R.map V.int)) ∧ R.length = A.length ∧ H sa = some (.tup (st.map V.int)) ∧ Asc st ∧ (∀ p ∈ st, 0 ≤ p ∧ p < (A.length : Int)) ∧ FewK A (rdF R) st ∧
  ∀ F S v H', Same H H' → IsKn A (rdF R) st F S → KnIn H' F S v → Q v H'
theorem ok_known_arena (T : Txt K mg) : FnOk P w K mg base CX0 2 T.aknown_arena T.dknown_arena Pknown_arena spKnown := by
  have G_parted := ok_parted (P := P) (w := w) (base := base) T
  have G_successors_of := ok_successors_of (P := P) (w := w) (base := base) T
  refine T.Fknown_arena.ok scknown_arena (fun vs H Q E h => ?_) (fun cdv A outer s H vs Q E hr h => ?_)
  · obtain ⟨av, ra, sa, A, R, st, rfl, _⟩ := h
    rfl
  obtain ⟨av, ra, sa, A0, R, st, rfl, hA, hG, hn, hra, hRl, hsa, hst, hsm, hfew, q⟩ := h
  obtain ⟨b0, zs0, rfl, e0, hzs0⟩ := id hA
  refine ⟨_, (pss_cons (ps_set (i := 3) scknown_arena.nd rfl (Or.inl rfl) (pe_call G_parted (hr.mono (by omega)) (by rfl) T.m_parted T.F_parted.kp T.b_parted .nil pass0 (pa_cons (pv 2) (pa_cons (pv 1) pa_nil))))
    (pss_cons (ps_set (i := 4) scknown_arena.nd rfl (Or.inr rfl) (pe_dcT (hu_of hr) (own := [("number", 5), ("known", 6)]) (g := (gTup K 2 (gCons (gName 5) (gCons (gName 6) gNil)))) (tt := tYes) rfl scknown_arena.nd (pi_enum (by rfl) T.z_enumerate (pa_cons (pv 3) pa_nil)) (blkOk_by (N := Nknown_arena) (sc := defScope sknown_arena) (by decide +kernel)) (fun _ _ _ _ _ => (pg_tup rfl (pgs_cons (pg_name (i := 5) scknown_arena.nd rfl (Or.inl rfl)) (pgs_cons (pg_name (i := 6) scknown_arena.nd rfl (Or.inl rfl)) pgs_nil)))) (fun _ _ _ _ _ => pts_nil) (fun _ _ _ _ _ => (pv 6)) (fun _ _ _ _ _ => (pv 5))))
    (pss_cons (ps_set (i := 7) scknown_arena.nd rfl (Or.inl rfl) (pe_lst pa_nil))
    (pss_cons (ps_while PassesOwn.never (pt_cmpR op_lt (pe_callB call_len_seq (by rfl) T.z_len PySem.boot_len (pa_cons (pv 7) pa_nil)) (pe_callB call_len_seq (by rfl) T.z_len PySem.boot_len (pa_cons (pv 3) pa_nil)) (nomark _))
    (pss_cons (ps_set (i := 6) scknown_arena.nd rfl (Or.inl rfl) (pe_ix ix_list (pv 3) (pe_callB call_len_seq (by rfl) T.z_len PySem.boot_len (pa_cons (pv 7) pa_nil)) (fun _ _ => rfl)))
    (pss_cons (ps_set (i := 8) scknown_arena.nd rfl (Or.inl rfl) (pe_lst pa_nil))
    (pss_cons (ps_for  PassesOwn.never rfl (pi_range1 (by rfl) T.z_range (pa_cons (pe_callB (cr_min rfl) (by rfl) T.z_min (by decide +kernel) (pa_cons (pe_lc (own := [("at", 10)]) (g := (gName 10)) (tt := tYes) rfl scknown_arena.nd (pi_tup (pv 6)) (blkOk_by (N := Nknown_arena) (sc := defScope sknown_arena) (by decide +kernel)) (fun _ _ _ _ _ => (pg_name (i := 10) scknown_arena.nd rfl (Or.inl rfl))) (fun _ _ _ _ _ => pts_nil) (fun _ _ _ _ _ => (pe_callB (call_len_seqK (K := K) rfl) (by rfl) T.z_len PySem.boot_len (pa_cons (pe_ix (ix_tupK (K := K) rfl) (pv 0) (pv 10) (fun _ _ => rfl)) pa_nil)))) pa_nil)) pa_nil)) (pg_name (i := 9) scknown_arena.nd rfl (Or.inl rfl))
    (pss_cons (ps_set (i := 11) scknown_arena.nd rfl (Or.inl rfl) (pe_call G_successors_of (hr.mono (by omega)) (by rfl) T.m_successors_of T.F_successors_of.kp T.b_successors_of .nil pass0 (pa_cons (pv 0) (pa_cons (pv 6) (pa_cons (pv 9) pa_nil)))))
    (pss_cons (ps_set (i := 12) scknown_arena.nd rfl (Or.inl rfl) (pe_call G_parted (hr.mono (by omega)) (by rfl) T.m_parted T.F_parted.kp T.b_parted .nil pass0 (pa_cons (pe_lc (own := [("at", 10)]) (g := (gName 10)) (tt := _) rfl scknown_arena.nd (pi_list (pv 11)) (blkOk_by (N := Nknown_arena) (sc := defScope sknown_arena) (by decide +kernel)) (fun _ _ _ _ _ => (pg_name (i := 10) scknown_arena.nd rfl (Or.inl rfl))) (fun _ _ _ _ _ => (pts_one (pt_cmpR op_ne (pv 10) (pe_un un_neg pe_int) (nomark _)))) (fun _ _ _ _ _ => (pv 10))) (pa_cons (pv 1) pa_nil))))
    (pss_cons (ps_for  PassesOwn.never rfl (pi_list (pv 12)) (pg_name (i := 13) scknown_arena.nd rfl (Or.inl rfl))
    (pss_one (ps_if (pt_cmp (pc_dnotin (hu_of hr) (pv 13) (pv 4)))
    (pss_cons (ps_dput (hu_of hr) (pv 4) (pv 13) (pe_callB call_len_seq (by rfl) T.z_len PySem.boot_len (pa_cons (pv 3) pa_nil)) rfl)
    (pss_one (ps_expr (pe_bm PySem.F.plainAttrs_list PySem.F.slot_list_append PySem.F.type_list_append mt_append (pv 3) (pa_cons (pv 13) pa_nil)))))
    pss_nil)))
    (pss_cons (ps_set (i := 14) scknown_arena.nd rfl (Or.inl rfl) (pe_ifExp (pt_cmpR op_in_seq (pe_un un_neg pe_int) (pv 11) (by rfl)) (pe_lst (pa_cons (pe_un un_neg pe_int) pa_nil)) (pe_lst pa_nil)))
    (pss_one (ps_expr (pe_bm PySem.F.plainAttrs_list PySem.F.slot_list_append PySem.F.type_list_append mt_append (pv 8) (pa_cons (pe_callTy call_tuple_of (by rfl) T.z_tuple (by decide +kernel) (pa_cons (pe_op op_cat (pv 14) (pe_callB (cr_sorted) (by rfl) T.z_sorted (by decide +kernel) (pa_cons (pe_lc (own := [("one", 13)]) (g := (gName 13)) (tt := tYes) rfl scknown_arena.nd (pi_list (pv 12)) (blkOk_by (N := Nknown_arena) (sc := defScope sknown_arena) (by decide +kernel)) (fun _ _ _ _ _ => (pg_name (i := 13) scknown_arena.nd rfl (Or.inl rfl))) (fun _ _ _ _ _ => pts_nil) (fun _ _ _ _ _ => (pe_dget (hu_of hr) (pv 4) (pv 13) (fun _ _ => rfl)))) pa_nil))) pa_nil)) pa_nil)))))))))
    (pss_one (ps_expr (pe_bm PySem.F.plainAttrs_list PySem.F.slot_list_append PySem.F.type_list_append mt_append (pv 7) (pa_cons (pe_callTy call_tuple_of (by rfl) T.z_tuple (by decide +kernel) (pa_cons (pv 8) pa_nil)) pa_nil))))))))
    (pss_one (ps_ret (pe_tup (pa_cons (pe_callTy call_tuple_of (by rfl) T.z_tuple (by decide +kernel) (pa_cons (pv 7) pa_nil)) (pa_cons (pe_callTy call_tuple_of (by rfl) T.z_tuple (by decide +kernel) (pa_cons (pv 3) pa_nil)) pa_nil))))))))), ?_⟩
  generalize hrd : rdF R = rd at *
  have hstl : st.length ≤ 60 := by
    have := asc_short (lo := 0) (hi := (A0.length : Int)) hst (fun x hx => hsm x hx) (by omega)
    omega
  refine ⟨_, rfl, _, rfl, sa, ra, st, R, rfl, .inr hsa, hra, hstl, fun p hp => by rw [hRl]; exact hsm p hp, fun sl xs H1 s1 hsl k1 hxs => ?_⟩
  rw [hrd] at hxs
  have hpl : (prt rd st).length ≤ 60 := Nat.le_trans prt_len hstl
  have hxl := hxs.1
  refine ⟨_, rfl, sl, xs, rfl, sqd k1, fun N hN => ?_⟩
  have hNsl : N ≠ sl := fun z => by rw [z, k1] at hN; cases hN
  refine dcT_it (walk_enum (K := K) (a := sl) (xs := xs)) (fun (j : Nat) (H' : Hp) => Same H1 H' ∧ ∃ kvs, H' N = some (.dT kvs) ∧ NumOk kvs ((prt rd st).take j) ∧ kvs.length ≤ j) ?_ ?_ ?_ ?_
  · exact ⟨same_new hN _, [], upd_same, by rw [List.take_zero]; exact .nil, Nat.le_refl _⟩
  · rintro j H' _ ⟨s2, _⟩
    exact sqd (s2 _ _ k1)
  · rintro j x H2 H3 hj ⟨s2, kvs, k2, hnum, hkl⟩ ⟨t, x1, y1, rfl, ht, rfl, hx1, hy1⟩
    cases hx1
    have hy1 : xs[j]? = some y1 := hy1
    obtain ⟨g, hg⟩ : ∃ g, (prt rd st)[j]? = some g := ⟨_, List.getElem?_eq_getElem (by omega)⟩
    obtain ⟨b, rfl, hb⟩ := hxs.2 j g y1 hg hy1
    obtain ⟨H4, e4, s4, k4⟩ := newH ht (.tup [.int (j : Nat), V.ref b])
    rw [e4]
    have s24 := s2.trans s4
    refine ⟨t, _, rfl, sqt k4, rfl, _, _, rfl, _, _, rfl, rfl, rfl, yes_if ?_⟩
    refine ⟨_, rfl, _, rfl, kvs, gk g, b, _, rfl, rfl, by rw [gk_V]; exact s24 _ _ hb, s4 _ _ k2, big' (by omega), same_put s24 hN, _, upd_same, ?_, ?_⟩
    · have hnot : g ∉ (prt rd st).take j := fun hm => by
        obtain ⟨i, hi⟩ := List.getElem?_of_mem hm
        have hil := (List.getElem?_eq_some_iff.mp hi).1
        rw [List.length_take] at hil
        rw [List.getElem?_take, if_pos (by omega)] at hi
        have h1 := nr_at prt_nodup hi
        have h2 := nr_at prt_nodup hg
        omega
      have htl : ((prt rd st).take j).length = j := by rw [List.length_take]; omega
      have := hnum.put hnot
      rw [htl] at this
      rw [List.take_add_one, hg]
      exact this
    · have := length_putK kvs (gk g) (V.int (j : Nat))
      omega
  rintro H2 ⟨s2, kvs0, k2, hnum0, hkl0⟩
  rw [hxl, List.take_length] at hnum0
  refine ⟨Nat.zero_le _, fun ko hko => ?_⟩
  obtain ⟨H3, e3, s3, k3⟩ := newH hko (.lst [])
  rw [e3]
  have hsl0 : H sl = none := hsl
  have s12 := s1.trans s2
  have KS0 : KnS H H3 sl N ko (prt rd st) [] := ⟨⟨xs, s3 _ _ (s2 _ _ k1), hxs.mono fun o x => OptIn.tp (Tp.same (s2.trans s3))⟩, ⟨kvs0, s3 _ _ k2, hnum0, by omega⟩, ⟨[], k3, .nil⟩, hsl0, s1.free hN, s12.free hko, s12.trans s3⟩
  have hslko : sl ≠ ko := fun z => by rw [← z, s2 _ _ k1] at hko; cases hko
  have hNko : N ≠ ko := fun z => by rw [← z, k2] at hko; cases hko
  refine ⟨fun m σ H' => ∃ (k : Nat) (S : List (List Int)) (F : Ar) (y5 y6 y8 y9 y10 y11 y12 y13 y14 : Option V), σ = [some (.ref b0), some (.ref ra), some (.ref sa), some (.ref sl), some (.ref N), y5, y6, some (.ref ko), y8, y9, y10, y11, y12, y13, y14] ∧ kn A0 rd st k = (S, F) ∧ KnS H H' sl N ko S F ∧ m = 300 - F.length, ⟨_, 0, prt rd st, [], _, _, _, _, _, _, _, _, _, rfl, rfl, KS0, rfl⟩, ?_⟩
  rintro m σ H4 ⟨k, S, F, y5, y6, y8, y9, y10, y11, y12, y13, y14, rfl, hk, Z, rfl⟩
  have I := kn_inv (rd := rd) hG hst hsm k
  rw [hk] at I
  have I : KnI A0 rd st S F := I
  have hS300 : S.length ≤ 300 := by
    have := hfew k
    rw [hk] at this
    exact this
  obtain ⟨xs4, kl4, hxs4⟩ := Z.ls
  obtain ⟨zs4, ko4, hzs4⟩ := Z.lo
  have hxl4 := hxs4.1
  have hzl4 := hzs4.1
  have hle := I.le
  refine ⟨_, rfl, ko, _, rfl, .inl (sqd ko4), _, rfl, sl, _, rfl, .inl (sqd kl4), _, _, rfl, rfl, _, rfl, ?_⟩
  by_cases hlt : F.length < S.length
  rotate_left
  · refine ifF (decide_eq_false (by omega)) ?_
    refine ⟨_, rfl, ko, _, rfl, .inl ⟨sqd ko4, fun ta hta => ?_⟩⟩
    obtain ⟨H5, e5, s5, k5⟩ := newH hta (.tup zs4)
    rw [e5]
    refine ⟨_, rfl, sl, _, rfl, .inl ⟨sqd (s5 _ _ kl4), fun tb htb => ?_⟩⟩
    obtain ⟨H6, e6, s6, k6⟩ := newH htb (.tup xs4)
    rw [e6]
    refine ⟨Nat.le_of_ble_eq_true rfl, fun tc htc => ?_⟩
    obtain ⟨_, rfl, s7, k7⟩ := newH htc (.tup [.ref ta, .ref tb])
    have s57 := (s5.trans s6).trans s7
    refine q F S _ _ (Z.s.trans s57) ⟨k, hk, by omega⟩ ⟨tc, _, _, rfl, ?_, ⟨ta, zs4, rfl, ?_, hzs4.mono fun o x => PosIn.tp (Tp.same s57)⟩, ⟨tb, xs4, rfl, ?_, hxs4.mono fun o x => OptIn.tp (Tp.same s57)⟩⟩
    · exact k7
    · exact s7 _ _ (s6 _ _ k5)
    · exact s7 _ _ k6
  refine ifT (decide_eq_true (by omega)) ?_
  obtain ⟨Kk, hKk⟩ : ∃ Kk, S[F.length]? = some Kk := ⟨_, List.getElem?_eq_getElem hlt⟩
  have hKS := I.ks Kk (List.mem_of_getElem? hKk)
  have hnext : kn A0 rd st (k + 1) = (rowS A0 rd Kk S (wid A0 Kk), F ++ [(List.range (wid A0 Kk)).map (optK A0 rd (rowS A0 rd Kk S (wid A0 Kk)) Kk)]) := by
    show stp A0 rd (kn A0 rd st k) = _
    rw [hk]
    unfold stp
    show (match S[F.length]? with
      | none => (S, F)
      | some Kk => (rowS A0 rd Kk S (wid A0 Kk), F ++ [(List.range (wid A0 Kk)).map (optK A0 rd (rowS A0 rd Kk S (wid A0 Kk)) Kk)])) = _
    rw [hKk]
  have I2 := kn_inv (rd := rd) hG hst hsm (k + 1)
  rw [hnext] at I2
  have I2 : KnI A0 rd st (rowS A0 rd Kk S (wid A0 Kk)) (F ++ [(List.range (wid A0 Kk)).map (optK A0 rd (rowS A0 rd Kk S (wid A0 Kk)) Kk)]) := I2
  have hW300 : (rowS A0 rd Kk S (wid A0 Kk)).length ≤ 300 := by
    have := hfew (k + 1)
    rw [hnext] at this
    exact this
  generalize hwd : wid A0 Kk = wd at *
  obtain ⟨x1, hx1, ka, rfl, hka4⟩ := hxs4.at hKk
  refine ⟨fun σ' H' => ∃ (y5 y6 y8 y9 y10 y11 y12 y13 y14 : Option V), σ' = [some (.ref b0), some (.ref ra), some (.ref sa), some (.ref sl), some (.ref N), y5, y6, some (.ref ko), y8, y9, y10, y11, y12, y13, y14] ∧ KnS H H' sl N ko (rowS A0 rd Kk S wd) (F ++ [(List.range wd).map (optK A0 rd (rowS A0 rd Kk S wd) Kk)]), ?_, ?_⟩
  · rintro σ' H' ⟨z5, z6, z8, z9, z10, z11, z12, z13, z14, rfl, Z'⟩
    exact ⟨_, by show 300 - (F ++ [(List.range wd).map (optK A0 rd (rowS A0 rd Kk S wd) Kk)]).length < 300 - F.length; rw [List.length_append, List.length_singleton]; omega, k + 1, _, _, _, _, _, _, _, _, _, _, _, rfl, hnext, Z', rfl⟩
  refine ⟨_, rfl, _, rfl, ko, _, rfl, .inl (sqd ko4), sl, _, _, _, rfl, rfl, sqd kl4, atI_nat (by rw [hzl4]; exact hx1), ?_⟩
  refine ⟨Nat.zero_le _, fun ol hol => ?_⟩
  obtain ⟨H5, e5, s5, k5⟩ := newH hol (.lst [])
  rw [e5]
  have Z5 := Z.same s5
  have hA5 : ArIn H5 A0 (.ref b0) := hA.tp (Tp.same Z5.s)
  have hKl : Kk.length ≤ 46 := by
    have := asc_short (lo := 0) (hi := (A0.length : Int)) hKS.asc (fun x hx => hKS.mem x hx) (by omega)
    omega
  refine ⟨_, rfl, ka, rfl, ⟨_, sqt (s5 _ _ hka4)⟩, fun wl hwl => ?_⟩
  refine lc_tup (K := K) (a := ka) (xs := Kk.map V.int) (fun (j : Nat) (H' : Hp) => Same H5 H' ∧ H' wl = some (.lst (((Kk.take j).map fun p => ((lenOf A0 p : Nat) : Int)).map V.int))) ?_ ?_ ?_ ?_
  · exact ⟨same_new hwl _, upd_same⟩
  · rintro j H' _ ⟨s6, _⟩
    exact sqt (s6 _ _ (s5 _ _ hka4))
  · rintro j x H6 hx ⟨s6, k6⟩
    rw [List.getElem?_map] at hx
    obtain ⟨p, hp, rfl⟩ := Option.map_eq_some_iff.mp hx
    obtain ⟨p0, p1⟩ := hKS.mem p (List.mem_of_getElem? hp)
    obtain ⟨os, x, hos, hat, b1, ys, rfl, eb1, hys⟩ := hzs0.atI p0 p1
    have hj := (List.getElem?_eq_some_iff.mp hp).1
    refine ⟨rfl, yes_if ?_⟩
    refine ⟨_, rfl, _, rfl, b0, _, _, _, rfl, rfl, sqt (s6 _ _ (Z5.s _ _ e0)), hat, b1, _, rfl, .inr (sqt (s6 _ _ (Z5.s _ _ eb1))), _, k6, big' (by rw [List.length_map, List.length_map, List.length_take]; omega), same_put s6 hwl, ?_⟩
    rw [upd_same, List.take_add_one, hp, List.map_append, List.map_append, hys.1, ← lenOf_at hos]
    rfl
  rintro H6 ⟨s6, k6⟩
  rw [List.length_map, List.take_length] at k6
  refine ⟨wl, _, rfl, sqd k6, by rw [List.length_map]; exact List.length_pos_iff.mpr hKS.ne, fun mn hmn hmle => ?_⟩
  have hmw : mn = ((wd : Nat) : Int) := by
    obtain ⟨p, hp, e⟩ := List.mem_map.mp hmn
    have h1 : mn.toNat = wid A0 Kk := wid_is (fun p hp => by have := hmle _ (List.mem_map.mpr ⟨p, hp, rfl⟩); omega) ⟨p, hp, by omega⟩
    rw [hwd] at h1
    omega
  have hwd12 : wd ≤ 12 := by
    obtain ⟨p, hp, e⟩ := wid_mem (A := A0) hKS.ne
    rw [hwd] at e
    obtain ⟨p0, p1⟩ := hKS.mem p hp
    have hk2 : p.toNat < A0.length := by omega
    have := (hG.2 _ (List.getElem_mem hk2)).1
    have e2 := lenOf_at (A := A0) (p := p) (List.getElem?_eq_getElem hk2)
    omega
  have hwle : ∀ i, i < wd → ∀ p ∈ Kk, i < lenOf A0 p := fun i hi p hp => by
    have := wid_le (A := A0) p hp
    omega
  have s56 : Same H4 H6 := s5.trans s6
  have Z6 := Z5.same s6
  have hslO : sl ≠ ol := fun z => by rw [← z, kl4] at hol; cases hol
  have hNO : N ≠ ol := fun z => by
    obtain ⟨kvs, h1, _⟩ := Z.nm
    rw [← z, h1] at hol
    cases hol
  have hkoO : ko ≠ ol := fun z => by rw [← z, ko4] at hol; cases hol
  refine ⟨mn, rfl, by omega, by omega, for_range (lo := 0) (n := mn.toNat) (fun (j : Nat) (σ : L2.St) (H' : Hp) => ∃ (y9 y10 y11 y12 y13 y14 : Option V), σ = [some (.ref b0), some (.ref ra), some (.ref sa), some (.ref sl), some (.ref N), y5, some (.ref ka), some (.ref ko), some (.ref ol), y9, y10, y11, y12, y13, y14] ∧ KnS H H' sl N ko (rowS A0 rd Kk S j) F ∧ H' ka = some (.tup (Kk.map V.int)) ∧ ∃ os, H' ol = some (.lst os) ∧ Each (OptIn H') ((List.range j).map (optK A0 rd (rowS A0 rd Kk S wd) Kk)) os) ?_ ?_ ?_⟩
  · exact ⟨_, _, _, _, _, _, rfl, Z6, s56 _ _ hka4, [], s6 _ _ k5, .nil⟩
  · rintro j σ H7 hj ⟨y9, y10, y11, y12, y13, y14, rfl, Z7, hka7, os7, kol7, hos7⟩
    have hjw : j < wd := by omega
    have hfolG := fol_ks hG hKS (i := j) (by rw [hwd]; exact hjw)
    refine ⟨_, rfl, _, rfl, _, rfl, .ref b0, ka, A0, Kk, j, by rw [Int.zero_add]; rfl, hA.tp (Tp.same Z7.s), hG, hn, hka7, hKS.mem, hwle j hjw, fun al H8 s8 hal k8 => ?_⟩
    have hsucR := succs_mem hG hKS.mem (hwle j hjw)
    have hsl47 : (succs A0 Kk j).length ≤ 47 := by
      have := asc_short (lo := -1) (hi := (A0.length : Int)) (l := succs A0 Kk j) asc_srt (fun x hx => hsucR x hx) (by omega)
      omega
    have Z8 := Z7.same s8
    refine ⟨_, rfl, al, rfl, ⟨_, sqd k8⟩, fun fl hfl => ?_⟩
    refine lc_list (K := K) (a := al) (xs := (succs A0 Kk j).map V.int) (fun (t : Nat) (H' : Hp) => Same H8 H' ∧ H' fl = some (.lst ((((succs A0 Kk j).take t).filter fun p => !decide (p = -1)).map V.int))) ?_ ?_ ?_ ?_
    · exact ⟨same_new hfl _, upd_same⟩
    · rintro t H' _ ⟨s9, _⟩
      exact sqd (s9 _ _ k8)
    · rintro t x H9 hx ⟨s9, k9⟩
      rw [List.getElem?_map] at hx
      obtain ⟨p, hp, rfl⟩ := Option.map_eq_some_iff.mp hx
      have hfl60 : (((succs A0 Kk j).take t).filter fun p => !decide (p = -1)).length ≤ 60 := by
        have h1 := List.length_filter_le (fun p : Int => !decide (p = -1)) ((succs A0 Kk j).take t)
        rw [List.length_take] at h1
        omega
      refine ⟨rfl, ?_⟩
      refine ⟨_, rfl, _, rfl, rfl, _, rfl, ?_⟩
      have hnx : ((succs A0 Kk j).take (t + 1)).filter (fun p => !decide (p = -1)) = ((succs A0 Kk j).take t).filter (fun p => !decide (p = -1)) ++ if p = -1 then [] else [p] := by
        rw [List.take_add_one, hp, List.filter_append]
        congr 1
        by_cases h : p = -1
        · rw [if_pos h, h]
          rfl
        · rw [if_neg h]
          simp [h]
      by_cases h : p = -1
      · subst h
        refine iteF ⟨s9, ?_⟩
        rw [hnx, if_pos rfl, List.append_nil]
        exact k9
      · rw [show (!decide (V.int p = V.int (-1))) = true by rw [decide_eq_false (fun e => h (V.int.inj e))]; rfl]
        refine iteT ⟨_, rfl, _, k9, big' (by rw [List.length_map]; omega), same_put s9 hfl, ?_⟩
        rw [upd_same, hnx, if_neg h, List.map_append]
        rfl
    rintro H9 ⟨s9, k9⟩
    rw [List.length_map, List.take_length] at k9
    have s79 := s8.trans s9
    have hfm : ∀ p ∈ (succs A0 Kk j).filter (fun p => !decide (p = -1)), 0 ≤ p ∧ p < (A0.length : Int) := fun p hp => by
      obtain ⟨h1, h2⟩ := List.mem_filter.mp hp
      have h3 : p ≠ -1 := by simpa using h2
      have := hsucR p h1
      omega
    have hfl60 : ((succs A0 Kk j).filter fun p => !decide (p = -1)).length ≤ 60 := by
      have h1 := List.length_filter_le (fun p : Int => !decide (p = -1)) (succs A0 Kk j)
      omega
    refine ⟨_, rfl, fl, ra, _, R, rfl, .inl k9, s79 _ _ (Z7.s _ _ hra), hfl60, fun p hp => by rw [hRl]; exact hfm p hp, fun gl gxs HA sA hgl kA hgx => ?_⟩
    rw [hrd] at hgx
    have hgx : Each (OptIn HA) (fol A0 rd Kk j) gxs := hgx
    have hGl60 : (fol A0 rd Kk j).length ≤ 60 := Nat.le_trans prt_len hfl60
    have s7A := s79.trans sA
    have ZA := Z7.same s7A
    generalize hGf : fol A0 rd Kk j = Gf at *
    have hgxl := hgx.1
    have glsl : gl ≠ sl := fun z => by
      obtain ⟨xs, h1, _⟩ := (Z7.same s79).ls
      rw [z, h1] at hgl
      cases hgl
    have glN : gl ≠ N := fun z => by
      obtain ⟨xs, h1, _⟩ := (Z7.same s79).nm
      rw [z, h1] at hgl
      cases hgl
    have kolA := s7A _ _ kol7
    refine ⟨_, rfl, gl, rfl, ⟨_, sqd kA⟩, ?_⟩
    refine for_list (K := K) (a := gl) (xs := gxs) (fun (t : Nat) (σ : L2.St) (H' : Hp) => ∃ (y13 : Option V), σ = [some (.ref b0), some (.ref ra), some (.ref sa), some (.ref sl), some (.ref N), y5, some (.ref ka), some (.ref ko), some (.ref ol), some (.int (0 + (j : Int))), y10, some (.ref al), some (.ref gl), y13, y14] ∧ KnS H H' sl N ko (addS (rowS A0 rd Kk S j) (Gf.take t)) F ∧ ∀ a o, a ≠ sl → a ≠ N → HA a = some o → H' a = some o) ?_ ?_ ?_ ?_
    · exact ⟨_, rfl, by rw [List.take_zero]; exact ZA, fun a o _ _ e => e⟩
    · rintro t σ H' _ ⟨y13, rfl, _, fr⟩
      exact sqd (fr _ _ glsl glN kA)
    · rintro t x σ HB hx ⟨y13, rfl, ZB, fr⟩
      have htl : t < gxs.length := (List.getElem?_eq_some_iff.mp hx).1
      obtain ⟨g, hg⟩ : ∃ g, Gf[t]? = some g := ⟨_, List.getElem?_eq_getElem (by omega)⟩
      obtain ⟨bg, rfl, hbg⟩ := hgx.2 t g x hg hx
      have bgsl : bg ≠ sl := fun z => by
        obtain ⟨xs, h1, _⟩ := ZA.ls
        rw [z, h1] at hbg
        cases hbg
      have bgN : bg ≠ N := fun z => by
        obtain ⟨xs, h1, _⟩ := ZA.nm
        rw [z, h1] at hbg
        cases hbg
      have hbgB := fr _ _ bgsl bgN hbg
      obtain ⟨kvs, kN, hnum, hkl⟩ := ZB.nm
      obtain ⟨xsB, klB, hxsB⟩ := ZB.ls
      have hxlB := hxsB.1
      have hSB300 : (addS (rowS A0 rd Kk S j) (Gf.take t)).length ≤ 300 := by
        obtain ⟨T, hT⟩ := rowS_le (A := A0) (rd := rd) (K := Kk) (S := S) (show j + 1 ≤ wd from hjw)
        have e1 : rowS A0 rd Kk S (j + 1) = addS (rowS A0 rd Kk S j) Gf := by rw [← hGf]; rfl
        obtain ⟨T2, hT2⟩ := addS_pre (G := Gf.drop t) (S := addS (rowS A0 rd Kk S j) (Gf.take t))
        rw [← addS_two, List.take_append_drop] at hT2
        rw [hT, e1, hT2, List.length_append, List.length_append] at hW300
        omega
      have hadd : addS (rowS A0 rd Kk S j) (Gf.take (t + 1)) = if g ∈ addS (rowS A0 rd Kk S j) (Gf.take t) then addS (rowS A0 rd Kk S j) (Gf.take t) else addS (rowS A0 rd Kk S j) (Gf.take t) ++ [g] := by
        rw [List.take_add_one, hg]
        exact addS_app _ _ _
      refine ⟨_, rfl, _, rfl, N, _, rfl, DGet.t (k := gk g) kN (by rw [gk_V]; exact hbgB), _, rfl, ?_⟩
      rw [hnum g]
      by_cases hgS : g ∈ addS (rowS A0 rd Kk S j) (Gf.take t)
      · rw [if_pos hgS]
        refine ifF rfl ?_
        refine ⟨_, rfl, ?_, fr⟩
        rw [hadd, if_pos hgS]
        exact ZB
      · rw [if_neg hgS]
        refine ifT rfl ?_
        refine ⟨_, rfl, sl, _, rfl, .inl (sqd klB), _, rfl, _, rfl, N, _, rfl, DPut.t (k := gk g) kN (by rw [gk_V]; exact hbgB) (big' (by omega)), ?_⟩
        have klB' : upd HB N (.dT (putK kvs (gk g) (.int ((xsB.length : Nat) : Int)))) sl = some (.lst xsB) := by rw [upd_ne ZB.ne.1]; exact klB
        refine ⟨_, rfl, .inl ⟨rfl, _, sqd klB'⟩, _, rfl, sl, _, _, rfl, rfl, klB', big' (by omega), ?_⟩
        refine ⟨_, rfl, ?_, fun a o ha1 ha2 e => by rw [upd_ne ha1, upd_ne ha2]; exact fr a o ha1 ha2 e⟩
        rw [hadd, if_neg hgS, hxlB]
        exact ZB.add hslko hgS klB kN hbgB
    · rintro σ HB ⟨y13', rfl, ZB, fr⟩
      rw [hgxl, List.take_length] at ZB
      have hrow : addS (rowS A0 rd Kk S j) Gf = rowS A0 rd Kk S (j + 1) := by
        rw [← hGf]
        rfl
      rw [hrow] at ZB
      have alsl : al ≠ sl := fun z => by
        obtain ⟨xs, h1, _⟩ := Z7.ls
        rw [z, h1] at hal
        cases hal
      have alN : al ≠ N := fun z => by
        obtain ⟨xs, h1, _⟩ := Z7.nm
        rw [z, h1] at hal
        cases hal
      have kalB := fr _ _ alsl alN (sA _ _ (s9 _ _ k8))
      refine ⟨_, rfl, _, rfl, al, _, rfl, .inl (sqd kalB), rfl, flat_ints' _, _, rfl, ?_⟩
      rw [if_neg Bool.false_ne_true, int_in]
      refine gx_out (fun out HC => Same HB HC ∧ HB out = none ∧ HC out = some (.lst ((if (-1 : Int) ∈ succs A0 Kk j then [-1] else []).map V.int))) (fun hc C q' => ?_) (fun hc C q' => ?_) ?_
      · exact ⟨_, rfl, Nat.le_of_ble_eq_true rfl, fun out hout => q' out _ ⟨same_new hout _, hout, by rw [upd_same, if_pos (of_decide_eq_true hc)]; rfl⟩⟩
      · exact ⟨Nat.zero_le _, fun out hout => q' out _ ⟨same_new hout _, hout, by rw [upd_same, if_neg (of_decide_eq_false hc)]; rfl⟩⟩
      rintro out HC ⟨sC, hout, kout⟩
      have ZC := ZB.same sC
      have kolC := sC _ _ (fr _ _ hslO.symm hNO.symm kolA)
      have kglC := sC _ _ (fr _ _ glsl glN kA)
      obtain ⟨kvsC, kNC, hnumC, hklC⟩ := ZC.nm
      have hGin : ∀ g ∈ Gf, g ∈ rowS A0 rd Kk S (j + 1) := fun g hg => rowS_fol (Nat.lt_succ_self j) g (by rw [hGf]; exact hg)
      refine ⟨_, rfl, .inl ⟨rfl, _, sqd kolC⟩, _, rfl, _, rfl, gl, rfl, ⟨_, sqd kglC⟩, fun nl hnl => ?_⟩
      refine lc_list (K := K) (a := gl) (xs := gxs) (fun (t : Nat) (H' : Hp) => Same HC H' ∧ H' nl = some (.lst (((Gf.take t).map fun g => ((nr (rowS A0 rd Kk S (j + 1)) g : Nat) : Int)).map V.int))) ?_ ?_ ?_ ?_
      · exact ⟨same_new hnl _, upd_same⟩
      · rintro t H' _ ⟨sD, _⟩
        exact sqd (sD _ _ kglC)
      · rintro t x HD hx ⟨sD, kD⟩
        have htl : t < gxs.length := (List.getElem?_eq_some_iff.mp hx).1
        obtain ⟨g, hg⟩ : ∃ g, Gf[t]? = some g := ⟨_, List.getElem?_eq_getElem (by omega)⟩
        obtain ⟨bg, rfl, hbg⟩ := hgx.2 t g x hg hx
        have bgsl : bg ≠ sl := fun z => by
          obtain ⟨xs, h1, _⟩ := ZA.ls
          rw [z, h1] at hbg
          cases hbg
        have bgN : bg ≠ N := fun z => by
          obtain ⟨xs, h1, _⟩ := ZA.nm
          rw [z, h1] at hbg
          cases hbg
        have hbgD := sD _ _ (sC _ _ (fr _ _ bgsl bgN hbg))
        have hget := DGet.t (k := gk g) (sD _ _ kNC) (show HD bg = some (.tup ((gk g).map kV)) by rw [gk_V]; exact hbgD)
        rw [hnumC g, if_pos (hGin g (List.mem_of_getElem? hg))] at hget
        refine ⟨rfl, yes_if ?_⟩
        refine ⟨_, rfl, _, rfl, N, _, rfl, hget, _, kD, big' (by rw [List.length_map, List.length_map, List.length_take]; omega), same_put sD hnl, ?_⟩
        rw [upd_same, List.take_add_one, hg, List.map_append, List.map_append]
        rfl
      rintro HD ⟨sD, kD⟩
      rw [hgxl, List.take_length] at kD
      have hnd : (Gf.map fun g => ((nr (rowS A0 rd Kk S (j + 1)) g : Nat) : Int)).Nodup := by
        refine List.pairwise_map.mpr ?_
        have h : Gf.Pairwise fun a b => a ≠ b := by
          rw [← hGf]
          exact prt_nodup
        refine List.Pairwise.imp_of_mem (fun {a b} ha hb hab e => hab ?_) h
        exact nr_inj (hGin a ha) (hGin b hb) (Int.ofNat.inj e)
      refine ⟨nl, _, rfl, sqd kD, by rw [List.length_map]; omega, fun ns sp hperm hpw hsp => ?_⟩
      have hns : ns = srt (Gf.map fun g => ((nr (rowS A0 rd Kk S (j + 1)) g : Nat) : Int)) := srt_is (asc_of hperm hnd hpw) fun x => hperm.mem_iff
      have hnsl : ns.length ≤ 60 := by rw [hperm.length_eq, List.length_map]; exact hGl60
      obtain ⟨HE, eE, sE, kE⟩ := newH hsp (.lst (ns.map V.int))
      rw [eE]
      have hol1 : ((if (-1 : Int) ∈ succs A0 Kk j then [-1] else []) : List Int).length ≤ 1 := by split <;> simp
      refine ⟨out, sp, _, _, rfl, rfl, sE _ _ (sD _ _ kout), kE, big (by rw [List.length_map, List.length_map]; omega), fun cp hcp => ?_⟩
      obtain ⟨HF, eF, sF, kF⟩ := newH hcp (.lst ((if (-1 : Int) ∈ succs A0 Kk j then [-1] else []).map V.int ++ ns.map V.int))
      rw [eF]
      refine ⟨cp, _, rfl, .inl ⟨sqd kF, fun tp htp => ?_⟩⟩
      obtain ⟨HG, eG, sG, kG⟩ := newH htp (.tup ((if (-1 : Int) ∈ succs A0 Kk j then [-1] else []).map V.int ++ ns.map V.int))
      rw [eG]
      have sCG := ((sD.trans sE).trans sF).trans sG
      have kolG := sCG _ _ kolC
      have hosl := hos7.1
      rw [List.length_map, List.length_range] at hosl
      have sBG := sC.trans sCG
      have ZG := ZB.same sBG
      have olf : HA ol = some (.lst os7) := kolA
      have tpp : Tp HG (upd HG ol (.lst (os7 ++ [.ref tp]))) := tp_put Tp.refl kolG
      have tp7 : Tp H7 HG := fun a ys e => sBG _ _ (fr _ _ (fun q => by
        obtain ⟨xs, h1, _⟩ := Z7.ls
        rw [q, h1] at e
        cases e) (fun q => by
        obtain ⟨xs, h1, _⟩ := Z7.nm
        rw [q, h1] at e
        cases e) (s7A _ _ e))
      have htpol : tp ≠ ol := fun z => by rw [z, sF _ _ (sE _ _ (sD _ _ kolC))] at htp; cases htp
      refine ⟨ol, os7, _, rfl, rfl, kolG, big' (by omega), ?_⟩
      have hkaG := tp7 _ _ hka7
      refine ⟨_, _, _, _, _, _, rfl, ZG.put hslO hNO hkoO (Z.s.free hol) kolG, by rw [upd_ne (fun z => by rw [z, kolG] at hkaG; cases hkaG)]; exact hkaG, os7 ++ [.ref tp], upd_same, ?_⟩
      · rw [List.range_succ, List.map_append]
        refine (hos7.mono fun o x h => OptIn.tp (tp7.trans tpp) h).snoc ⟨tp, rfl, ?_⟩
        rw [upd_ne htpol, kG, ← List.map_append]
        have e1 : optK A0 rd (rowS A0 rd Kk S wd) Kk j = optK A0 rd (rowS A0 rd Kk S (j + 1)) Kk j := by
          obtain ⟨T, hT⟩ := rowS_le (A := A0) (rd := rd) (K := Kk) (S := S) (show j + 1 ≤ wd from hjw)
          rw [hT]
          exact optK_app fun g hg => hGin g (by rw [← hGf]; exact hg)
        rw [e1]
        unfold optK
        rw [hGf, ← hns]
  · rintro σ H7 ⟨y9, y10, y11, y12, y13, y14, rfl, Z7, hka7, os7, kol7, hos7⟩
    rw [show mn.toNat = wd by omega] at Z7 hos7
    obtain ⟨zs7, ko7, hzs7⟩ := Z7.lo
    have hzl7 := hzs7.1
    refine ⟨_, rfl, .inl ⟨rfl, _, sqd ko7⟩, _, rfl, ol, _, rfl, .inl ⟨sqd kol7, fun t ht => ?_⟩⟩
    obtain ⟨H8, e8, s8, k8⟩ := newH ht (.tup os7)
    rw [e8]
    refine ⟨ko, zs7, _, rfl, rfl, s8 _ _ ko7, big' (by omega), ?_⟩
    exact ⟨_, _, _, _, _, _, _, _, _, rfl, (Z7.same s8).row hslko (s8 _ _ ko7) k8 (hos7.mono fun o x => OptIn.tp (Tp.same s8))⟩
end
end NL

set_option maxHeartbeats 4000000
namespace NL
open PySem PySem.Spec PyProof.Rows L2
structure KpG (n : Nat) (Kp : List Int) : Prop where
  asc : Kp.Pairwise (· < ·)
  mem : ∀ x ∈ Kp, 0 ≤ x ∧ x < (n : Int)
theorem KpG.nil (n : Nat) : KpG n [] := ⟨List.Pairwise.nil, fun x h => nomatch h⟩
theorem KpG.up {n m : Nat} {l : List Int} (h : KpG n l) (hn : n ≤ m) : KpG m l := ⟨h.asc, fun x hx => by have := h.mem x hx; omega⟩
theorem KpG.snoc {n : Nat} {l : List Int} (h : KpG n l) : KpG (n + 1) (l ++ [0 + (n : Int)]) := by
  refine ⟨List.pairwise_append.mpr ⟨h.asc, List.pairwise_singleton .., fun a ha b hb => ?_⟩, fun x hx => ?_⟩
  · rw [List.mem_singleton.mp hb]
    have := h.mem a ha
    omega
  · rcases List.mem_append.mp hx with hx | hx
    · have := h.mem x hx
      omega
    · rw [List.mem_singleton.mp hx]
      omega
theorem KpG.range : ∀ n : Nat, KpG n ((List.range n).map fun i : Nat => (0 : Int) + (i : Int))
  | 0 => KpG.nil 0
  | n + 1 => by
    rw [List.range_succ, List.map_append]
    exact (KpG.range n).snoc
section
variable {P : Program} {w : World} {K : PySem.W.Frag} {mg : Str → Option Value} {base : Heap}
/-! ### _law_some -/
def spSome : Sp := fun vs H Q _ => ∃ (d : Addr) (v : V) (A : Ar) (sh : Int), vs = [.ref d, v, .int sh] ∧ Dr H d ∧ ArIn H A v ∧ A.length ≤ 400 ∧ ∀ (p : Addr) (o : List Int) (H' : Hp), Go d H H' → H' p = some (.tup (o.map V.int)) → KpG A.length o → Q (.ref p) H'
theorem ok_law_some (T : Txt K mg) : FnOk P w K mg base CX0 2 T.a_law_some T.d_law_some P_law_some spSome := by
  have G_law_take := ok_law_take (P := P) (w := w) (base := base) T
  refine T.F_law_some.ok sc_law_some (fun vs H Q E h => ?_) (fun cdv A outer s H vs Q E hr h => ?_)
  · obtain ⟨d, v, A, sh, rfl, _⟩ := h
    rfl
  obtain ⟨d, v, A0, sh, rfl, hD, ⟨b0, xs, rfl, e0, hxs⟩, h16, q⟩ := h
  have hxl := hxs.1
  refine ⟨_, (pss_cons (ps_if (pt_cmpR op_gt (pe_callB call_len_seq (by rfl) T.z_len PySem.boot_len (pa_cons (pv 1) pa_nil)) pe_int (nomark _))
    (pss_cons (ps_set (i := 3) sc_law_some.nd rfl (Or.inr rfl) (pe_op op_add pe_int (pe_call G_law_take (hr.mono (by omega)) (by rfl) T.m_law_take T.F_law_take.kp T.b_law_take .nil pass0 (pa_cons (pv 0) (pa_cons pe_int pa_nil)))))
    (pss_cons (ps_set (i := 4) sc_law_some.nd rfl (Or.inr rfl) (pe_call G_law_take (hr.mono (by omega)) (by rfl) T.m_law_take T.F_law_take.kp T.b_law_take .nil pass0 (pa_cons (pv 0) (pa_cons pe_int pa_nil))))
    (pss_one (ps_ret (pe_callTy call_tuple_of (by rfl) T.z_tuple (by decide +kernel) (pa_cons (pe_lc (own := [("k", 5)]) (g := (gName 5)) (tt := _) rfl sc_law_some.nd (pi_range1 (by rfl) T.z_range (pa_cons (pe_callB call_len_seq (by rfl) T.z_len PySem.boot_len (pa_cons (pv 1) pa_nil)) pa_nil)) (blkOk_by (N := N_law_some) (sc := defScope s_law_some) (by decide +kernel)) (fun _ _ _ _ _ => (pg_name (i := 5) sc_law_some.nd rfl (Or.inl rfl))) (fun _ _ _ _ _ => (pts_one (pt_cmpR op_eq (pe_cmpR op_gt (pe_op op_mod (pe_callTy call_int1 (by rfl) T.z_int (by decide +kernel) (pa_cons (pe_op op_add (pv 5) (pv 4)) pa_nil)) (pv 3)) pe_int (nomark _)) (pe_cmpR op_gt (pv 2) pe_int (nomark _)) (nomark _)))) (fun _ _ _ _ _ => (pv 5))) pa_nil))))))
    pss_nil)
    (pss_cons (ps_if (PW.pt (pw_and (pt_cmpR op_eq (pe_call G_law_take (hr.mono (by omega)) (by rfl) T.m_law_take T.F_law_take.kp T.b_law_take .nil pass0 (pa_cons (pv 0) (pa_cons pe_int pa_nil))) pe_int (nomark _)) (pw_and1 (pt_cmpR op_gt (pv 2) pe_int (nomark _)))))
    (pss_one (ps_ret (pe_tupRg rfl (by rfl) T.z_tuple (prg_1 (by rfl) T.z_range (pe_callB call_len_seq (by rfl) T.z_len PySem.boot_len (pa_cons (pv 1) pa_nil))))))
    pss_nil)
    (pss_one (ps_ret (pe_callTy call_tuple_of (by rfl) T.z_tuple (by decide +kernel) (pa_cons (pe_lc (own := [("k", 5)]) (g := (gName 5)) (tt := _) rfl sc_law_some.nd (pi_range1 (by rfl) T.z_range (pa_cons (pe_callB call_len_seq (by rfl) T.z_len PySem.boot_len (pa_cons (pv 1) pa_nil)) pa_nil)) (blkOk_by (N := N_law_some) (sc := defScope s_law_some) (by decide +kernel)) (fun _ _ _ _ _ => (pg_name (i := 5) sc_law_some.nd rfl (Or.inl rfl))) (fun _ _ _ _ _ => (pts_one (pt_cmpR op_lt (pe_call G_law_take (hr.mono (by omega)) (by rfl) T.m_law_take T.F_law_take.kp T.b_law_take .nil pass0 (pa_cons (pv 0) (pa_cons pe_int pa_nil))) (pv 2) (nomark _)))) (fun _ _ _ _ _ => (pv 5))) pa_nil)))))), ?_⟩
  refine ⟨_, rfl, b0, _, rfl, .inr (sqt e0), _, _, rfl, rfl, _, rfl, ?_⟩
  refine ite2 (fun z16 => ?_) (fun z16 => ?_)
  · refine ⟨_, rfl, d, 9, rfl, hD, by decide, fun u1 H1 g1 a1 b1 => ⟨_, _, rfl, rfl, ?_⟩⟩
    dsimp only
    generalize hst : (2 : Int) + u1 = stp
    refine ⟨_, rfl, d, 4, rfl, g1.dr, by decide, fun u2 H2 g2 a2 b2 => ?_⟩
    have g12 := g1.trans g2
    have e2 := g12.tp hD _ _ e0
    refine ⟨_, rfl, b0, _, rfl, .inr (sqt e2), _, rfl, by omega, by omega, fun D hD' => ?_⟩
    have s1 := same_new hD' (.lst [])
    refine lc_range (lo := 0) (n := ((xs.length : Nat) : Int).toNat) (fun (i : Nat) (H' : Hp) => ∃ o : List Int, Go d H H' ∧ H' D = some (.lst (o.map V.int)) ∧ o.length ≤ i ∧ KpG i o) ?_ ?_ ?_
    · exact ⟨[], g12.trans (.same g2.dr s1), upd_same, Nat.le_refl 0, KpG.nil 0⟩
    · rintro i H' hi ⟨o, g3, e3, hlen, hnn⟩
      refine ⟨rfl, ?_⟩
      refine ⟨_, rfl, _, rfl, _, _, rfl, rfl, .inl ⟨_, rfl, _, rfl, _, _, rfl, rfl, (by show (0 : Int) < stp; omega), _, _, rfl, rfl, _, rfl, _, _, rfl, rfl, rfl, _, rfl, ?_⟩⟩
      refine ite2 (fun z => ?_) (fun z => ⟨o, g3, e3, by omega, hnn.up (Nat.le_succ i)⟩)
      exact ⟨_, rfl, _, e3, big' (by rw [List.length_map]; omega), o ++ [0 + (i : Int)], g3.put2 (g12.free hD') (new_ne g2.dr hD'), by rw [upd_same, List.map_append]; rfl, by rw [List.length_append]; exact Nat.add_le_add_right hlen 1, hnn.snoc⟩
    · rintro H3 ⟨o, g3, e3, hlen, hnn⟩
      refine ⟨D, _, rfl, .inl ⟨sqd e3, fun t ht => ?_⟩⟩
      exact q t o _ (g3.trans (Go.new g3.dr ht)) upd_same (hnn.up (by omega))
  refine ⟨_, rfl, d, 6, rfl, hD, by decide, fun u H1 g1 _ _ => ⟨rfl, _, rfl, ?_⟩⟩
  have e1 := g1.tp hD _ _ e0
  refine ite2 (fun z => ⟨_, rfl, _, _, rfl, rfl, _, rfl, ite2 (fun z2 => ?_) (fun z2 => ?_)⟩) (fun z => ?_)
  · refine ⟨_, rfl, b0, _, rfl, .inr (sqt e1), _, rfl, ⟨by omega, by omega, by omega, by omega, by omega⟩, fun q1 hq1 => ?_⟩
    rw [rg_ints]
    exact q q1 _ _ (g1.trans (Go.new g1.dr hq1)) upd_same ((KpG.range _).up (by omega))
  all_goals
    refine ⟨_, rfl, b0, _, rfl, .inr (sqt e1), _, rfl, by omega, by omega, fun D hD' => ?_⟩
    have nDd := new_ne g1.dr hD'
    have s1 := same_new hD' (.lst [])
    refine lc_range (lo := 0) (n := ((xs.length : Nat) : Int).toNat) (fun (i : Nat) (H' : Hp) => ∃ o : List Int, Go d H H' ∧ H' D = some (.lst (o.map V.int)) ∧ o.length ≤ i ∧ KpG i o) ?_ ?_ ?_
    · exact ⟨[], g1.trans (.same g1.dr s1), upd_same, Nat.le_refl 0, KpG.nil 0⟩
    · rintro i H' hi ⟨o, g2, e2, hlen, hnn⟩
      refine ⟨rfl, ?_⟩
      refine ⟨_, rfl, d, 8, rfl, g2.dr, by decide, fun u H2 g3 _ _ => ⟨_, rfl, _, _, rfl, rfl, _, rfl, ?_⟩⟩
      have e3 := g3.fr D _ nDd e2
      refine ite2 (fun z => ?_) (fun z => ⟨o, g2.trans g3, e3, by omega, hnn.up (Nat.le_succ i)⟩)
      exact ⟨_, rfl, _, e3, big' (by rw [List.length_map]; omega), o ++ [0 + (i : Int)], (g2.trans g3).put2 (g1.free hD') nDd, by rw [upd_same, List.map_append]; rfl, by rw [List.length_append]; exact Nat.add_le_add_right hlen 1, hnn.snoc⟩
    · rintro H2 ⟨o, g2, e2, hlen, hnn⟩
      refine ⟨D, _, rfl, .inl ⟨sqd e2, fun t ht => ?_⟩⟩
      exact q t o _ (g2.trans (Go.new g2.dr ht)) upd_same (hnn.up (by omega))
theorem rd_go {d a : Addr} {H H' : Hp} {u : HO} (g : Go d H H') (h : a ≠ d) (r : Rd H a u) : Rd H' a u := by
  rcases r with r | ⟨o, r⟩
  · exact .inl (g.fr a _ h r)
  · exact .inr ⟨o, g.fr a _ h r⟩
theorem rd_sm {a : Addr} {H H' : Hp} {u : HO} (s : Same H H') (r : Rd H a u) : Rd H' a u := by
  rcases r with r | ⟨o, r⟩
  · exact .inl (s _ _ r)
  · exact .inr ⟨o, s _ _ r⟩
/-- the script stays while draws go on -/
def ScrL (K : PySem.W.Frag) (d : Addr) (H : Hp) (a : Addr) (xs : List V) : Prop := SqL K H a xs ∧ (a = d → ∃ (o : Obj) (its : Array Value) (n : Nat), K.lookup a = some o ∧ o.cls = .type "list" ∧ o.dict = none ∧ o.data = .seq its n ∧ its.size ≤ sizeLine ∧ Vals xs its.toList)
theorem ScrL.of {d a : Addr} {H : Hp} {xs : List V} (h : SqL K H a xs) (hd : H d = none) : ScrL K d H a xs := ⟨h, fun e => by
  subst e
  rcases h with h | h
  · rcases h with h | ⟨o, h⟩
    · rw [hd] at h; cases h
    · rw [hd] at h; cases h
  · exact h⟩
theorem ScrL.go {d a : Addr} {H H' : Hp} {xs : List V} (g : Go d H H') (h : ScrL K d H a xs) : ScrL K d H' a xs := ⟨by
  by_cases e : a = d
  · exact .inr (h.2 e)
  · rcases h.1 with r | r
    · exact .inl (rd_go g e r)
    · exact .inr r, h.2⟩
theorem ScrL.sm {d a : Addr} {H H' : Hp} {xs : List V} (g : Same H H') (h : ScrL K d H a xs) : ScrL K d H' a xs := ⟨by
  rcases h.1 with r | r
  · exact .inl (rd_sm g r)
  · exact .inr r, h.2⟩
end
end NL

set_option maxHeartbeats 4000000
namespace NL
open PySem PySem.Spec PyProof.Rows L2
/-! ### the law's own known arena -/
theorem lay_intsR : ∀ l : List Int, PyData.canLayAll0 (l.map PyData.int) = true ∧ PyData.depthAll (l.map PyData.int) = 0
  | [] => ⟨rfl, rfl⟩
  | a :: r => by
    obtain ⟨h1, h2⟩ := lay_intsR r
    refine ⟨?_, ?_⟩
    · show (true && PyData.canLayAll0 (r.map PyData.int)) = true
      rw [h1]
      rfl
    · show max 0 (PyData.depthAll (r.map PyData.int)) = 0
      rw [h2]
      rfl
theorem dp_intsR {K : PySem.W.Frag} {H : Hp} : ∀ l : List Int, DpAll K H (l.map V.int) (l.map PyData.int)
  | [] => .nil
  | a :: r => .cons (.int a) (dp_intsR r)
theorem eqv_intsR : ∀ l m : List Int, PyData.eqvAll (l.map PyData.int) (m.map PyData.int) = decide (l = m)
  | [], [] => rfl
  | [], b :: m => rfl
  | a :: l, [] => rfl
  | a :: l, b :: m => by
    show ((a == b) && PyData.eqvAll (l.map PyData.int) (m.map PyData.int)) = _
    rw [eqv_intsR l m]
    by_cases h1 : a = b
    · subst h1
      by_cases h2 : l = m
      · subst h2
        simp
      · rw [decide_eq_false h2, Bool.and_false, decide_eq_false (fun h => h2 (List.cons.inj h).2)]
    · rw [beq_eq_false_iff_ne.mpr h1, Bool.false_and, decide_eq_false (fun h => h1 (List.cons.inj h).1)]
def dpG (g : List Int) : PyData := .tuple (g.map PyData.int)
theorem shaped_G (g : List Int) : SeqAt.shaped (dpG g) = true := by
  obtain ⟨h1, h2⟩ := lay_intsR g
  show (PyData.canLayAll0 (g.map PyData.int) && decide (PyData.depthAll (g.map PyData.int) + 1 ≤ 64)) = true
  rw [h1, h2]
  rfl
theorem lay_Gs : ∀ S : List (List Int), PyData.canLayAll0 (S.map dpG) = true ∧ PyData.depthAll (S.map dpG) ≤ 1
  | [] => ⟨rfl, Nat.zero_le _⟩
  | g :: r => by
    obtain ⟨h1, h2⟩ := lay_Gs r
    obtain ⟨h3, h4⟩ := lay_intsR g
    refine ⟨?_, ?_⟩
    · show (PyData.canLayAll0 (g.map PyData.int) && PyData.canLayAll0 (r.map dpG)) = true
      rw [h1, h3]
      rfl
    · show max (PyData.depthAll (g.map PyData.int) + 1) (PyData.depthAll (r.map dpG)) ≤ 1
      rw [h4]
      omega
theorem shaped_Gs (S : List (List Int)) : SeqAt.shaped (.list (S.map dpG)) = true := by
  obtain ⟨h1, h2⟩ := lay_Gs S
  show (PyData.canLayAll0 (S.map dpG) && decide (PyData.depthAll (S.map dpG) + 1 ≤ 64)) = true
  rw [h1, decide_eq_true (by omega)]
  rfl
theorem eqv_G (g h : List Int) : PyData.eqv (dpG g) (dpG h) = decide (g = h) := eqv_intsR g h
theorem dp_Gs {K : PySem.W.Frag} {H : Hp} : ∀ {S : List (List Int)} {xs : List V}, Each (OptIn H) S xs → DpAll K H xs (S.map dpG)
  | [], [], _ => .nil
  | [], x :: xs, h => by have := h.1; cases this
  | g :: S, [], h => by have := h.1; cases this
  | g :: S, x :: xs, h => by
    obtain ⟨b, rfl, hb⟩ := h.2 0 g x rfl rfl
    refine .cons (.tup (sqt hb) (dp_intsR g)) (dp_Gs ⟨Nat.succ.inj h.1, fun k a y h1 h2 => h.2 (k + 1) a y h1 h2⟩)
theorem any_Gs (S : List (List Int)) (g : List Int) : ((S.map dpG).any fun z => PyData.eqv z (dpG g)) = decide (g ∈ S) := by
  rw [List.any_map]
  refine Bool.eq_iff_iff.mpr ?_
  rw [List.any_eq_true, decide_eq_true_iff]
  constructor
  · rintro ⟨x, hx, e⟩
    have : decide (x = g) = true := (eqv_G x g) ▸ e
    exact of_decide_eq_true this ▸ hx
  · intro h
    exact ⟨g, h, (eqv_G g g).trans (decide_eq_true rfl)⟩
theorem nr_first : ∀ {S : List (List Int)} {g : List Int} {m : Nat} {z : PyData}, m < nr S g → (S.map dpG)[m]? = some z → PyData.eqv z (dpG g) = false
  | [], g, m, z, h, e => by simp at e
  | a :: r, g, m, z, h, e => by
    by_cases ha : a = g
    · have e0 : nr (a :: r) g = 0 := if_pos ha
      omega
    · have e0 : nr (a :: r) g = nr r g + 1 := if_neg ha
      cases m with
      | zero =>
        cases e
        exact (eqv_G a g).trans (decide_eq_false ha)
      | succ m => exact nr_first (S := r) (m := m) (by omega) e
theorem mem_optK {A : Ar} {rd : Int → Int} {S : List (List Int)} {Kk : List Int} {i : Nat} {x : Int} : x ∈ optK A rd S Kk i ↔ (x = -1 ∧ (-1 : Int) ∈ aft A Kk i) ∨ x ∈ (fol A rd Kk i).map fun g => ((nr S g : Nat) : Int) := by
  unfold optK
  rw [List.mem_append, mem_srt]
  refine or_congr ?_ Iff.rfl
  by_cases h : (-1 : Int) ∈ succs A Kk i
  · rw [if_pos h, List.mem_singleton]
    exact ⟨fun e => ⟨e, mem_srt.mp h⟩, fun e => e.1⟩
  · rw [if_neg h]
    exact ⟨fun e => (nomatch e), fun e => absurd (mem_srt.mpr e.2) h⟩
theorem asc_optK {A : Ar} {rd : Int → Int} {S : List (List Int)} {Kk : List Int} {i : Nat} : Asc (optK A rd S Kk i) := by
  unfold optK
  refine List.pairwise_append.mpr ⟨by split <;> simp, asc_srt, fun a ha b hb => ?_⟩
  have h1 : a = -1 := by
    split at ha
    · exact List.mem_singleton.mp ha
    · cases ha
  obtain ⟨g, _, e⟩ := List.mem_map.mp (mem_srt.mp hb)
  have e : ((nr S g : Nat) : Int) = b := e
  omega
theorem fol_srt {A : Ar} {rd : Int → Int} {Kk : List Int} {i : Nat} (h : ∀ s ∈ aft A Kk i, -1 ≤ s) : fol A rd Kk i = prt rd (srt ((aft A Kk i).filter fun p => decide (0 ≤ p))) := by
  unfold fol
  congr 1
  refine asc_ext (asc_filter _ asc_srt) asc_srt fun x => ?_
  rw [mem_srt, List.mem_filter, List.mem_filter]
  show x ∈ srt _ ∧ _ ↔ _
  rw [mem_srt]
  refine and_congr_right fun hx => ?_
  have := h x hx
  by_cases e : x = -1
  · subst e
    simp
  · rw [decide_eq_false e]
    have : (0 : Int) ≤ x := by omega
    simp [this]
theorem two_len (l : List Int) : (l.filter fun p => decide (p = -1)).length + (l.filter fun p => decide (0 ≤ p)).length ≤ l.length := by
  induction l with
  | nil => exact Nat.le_refl _
  | cons a r ih =>
    rw [List.filter_cons, List.filter_cons, List.length_cons]
    by_cases h1 : a = -1
    · subst h1
      simp
      omega
    · rw [if_neg (by simpa using h1)]
      split
      · rw [List.length_cons]
        omega
      · omega
/-- a list comprehension over a list or a tuple -/
theorem gx_lcSeq {K : PySem.W.Frag} {a : Addr} {xs : List V} {g : TG} {tt : TT} {te : TE} {vs : List Nat} {σ : L2.St} {H1 : Hp} {Qd : Addr → Hp → Prop} (h : H1 a = some (.lst xs) ∨ H1 a = some (.tup xs)) (Pv : Addr → Nat → Hp → Prop) (h0 : ∀ D, H1 D = none → Pv D 0 (upd H1 D (.lst []))) (hG : ∀ D i H, Pv D i H → H a = H1 a)
    (hs : ∀ D, H1 D = none → ∀ i x H, xs[i]? = some x → Pv D i H → g x (wipe σ vs) H fun σ2 H2 => wipe σ2 vs = wipe σ vs ∧ tt σ2 H2 fun b H3 =>
      if b = true then te σ2 H3 fun y H4 => ∃ acc, H4 D = some (.lst acc) ∧ acc.length < sizeLine ∧ Pv D (i + 1) (upd H4 D (.lst (acc ++ [y]))) else Pv D (i + 1) H3) (hd : ∀ D H, H1 D = none → Pv D xs.length H → Qd D H) :
    ((∃ xs, SqL K H1 a xs) ∧ ∀ D, H1 D = none → ∃ W : Nat → Nat → Hp → Prop, (∃ m, W 0 m (upd H1 D (.lst []))) ∧ ∀ i m H, W i m H →
      ((Itl K a).stop i H ∧ Qd D H) ∨ ((Itl K a).go i H ∧ ∃ Nx : Hp → Prop, (∀ H', Nx H' → ∃ m', m' < m ∧ W (i + 1) m' H') ∧ ∀ x H', (Itl K a).yld i H x H' → g x (wipe σ vs) H' fun σ2 H2 => wipe σ2 vs = wipe σ vs ∧ tt σ2 H2 fun b H3 =>
        if b = true then te σ2 H3 fun y H4 => ∃ acc, H4 D = some (.lst acc) ∧ acc.length < sizeLine ∧ Nx (upd H4 D (.lst (acc ++ [y]))) else Nx H3)) ∨
    ((∃ xs, SqT K H1 a xs) ∧ ∀ D, H1 D = none → ∃ W : Nat → Nat → Hp → Prop, (∃ m, W 0 m (upd H1 D (.lst []))) ∧ ∀ i m H, W i m H →
      ((Itt K a).stop i H ∧ Qd D H) ∨ ((Itt K a).go i H ∧ ∃ Nx : Hp → Prop, (∀ H', Nx H' → ∃ m', m' < m ∧ W (i + 1) m' H') ∧ ∀ x H', (Itt K a).yld i H x H' → g x (wipe σ vs) H' fun σ2 H2 => wipe σ2 vs = wipe σ vs ∧ tt σ2 H2 fun b H3 =>
        if b = true then te σ2 H3 fun y H4 => ∃ acc, H4 D = some (.lst acc) ∧ acc.length < sizeLine ∧ Nx (upd H4 D (.lst (acc ++ [y]))) else Nx H3)) := by
  rcases h with h | h
  · exact .inl ⟨⟨_, sqd h⟩, fun D hD => lc_list (xs := xs) (Pv D) (h0 D hD) (fun i H _ p => sqd (by rw [hG D i H p]; exact h)) (hs D hD) (fun H p => hd D H hD p)⟩
  · exact .inr ⟨⟨_, sqt h⟩, fun D hD => lc_tup (xs := xs) (Pv D) (h0 D hD) (fun i H _ p => sqt (by rw [hG D i H p]; exact h)) (hs D hD) (fun H p => hd D H hD p)⟩
/-- for over a range with a break -/
theorem gx_forBrk {lo : Int} {n : Nat} {g : TG} {tb : TS} {D : Ends} {σ : L2.St} {H : Hp} (Pv : Nat → L2.St → Hp → Prop) (Post : L2.St → Hp → Prop) (h0 : Pv 0 σ H)
    (hs : (∀ σ H, Post σ H → D.nx σ H) → ∀ i σ H, i < n → Pv i σ H → g (.int (lo + i)) σ H fun σ2 H2 => tb { D with nx := Pv (i + 1), ct := Pv (i + 1), bk := D.nx } σ2 H2) (hd : ∀ σ H, Pv n σ H → Post σ H) (hdone : ∀ σ H, Post σ H → D.nx σ H) :
    ∃ W : Nat → Nat → L2.St → Hp → Prop, (∃ m, W 0 m σ H) ∧ ∀ i m σ H, W i m σ H →
      ((Itr lo n).stop i H ∧ D.nx σ H) ∨ ((Itr lo n).go i H ∧ ∃ N : L2.St → Hp → Prop, (∀ σ' H', N σ' H' → ∃ m', m' < m ∧ W (i + 1) m' σ' H') ∧ ∀ x H', (Itr lo n).yld i H x H' → g x σ H' fun σ2 H2 => tb { D with nx := N, ct := N, bk := D.nx } σ2 H2) :=
  for_range Pv h0 (hs hdone) fun σ H p => hdone σ H (hd σ H p)
end NL

set_option maxHeartbeats 4000000
namespace NL
open PySem PySem.Spec PyProof.Rows L2
/-- the lists of the law's known arena: the sets, the options found -/
structure KnL (H0 H : Hp) (sl fl : Addr) (S : List (List Int)) (F : Ar) : Prop where
  ls : ∃ xs, H sl = some (.lst xs) ∧ Each (OptIn H) S xs
  lo : ∃ zs, H fl = some (.lst zs) ∧ Each (PosIn H) F zs
  f1 : H0 sl = none
  f3 : H0 fl = none
  s : Same H0 H
theorem KnL.same {H0 H H' : Hp} {sl fl : Addr} {S : List (List Int)} {F : Ar} (h : KnL H0 H sl fl S F) (s : Same H H') : KnL H0 H' sl fl S F := by
  obtain ⟨xs, h1, h2⟩ := h.ls
  obtain ⟨zs, h6, h7⟩ := h.lo
  exact ⟨⟨xs, s _ _ h1, h2.mono fun o x => OptIn.tp (Tp.same s)⟩, ⟨zs, s _ _ h6, h7.mono fun o x => PosIn.tp (Tp.same s)⟩, h.f1, h.f3, h.s.trans s⟩
theorem KnL.add {H0 H : Hp} {sl fl : Addr} {S : List (List Int)} {F : Ar} (h : KnL H0 H sl fl S F) (hsk : sl ≠ fl) {g : List Int} {xs : List V} {b : Addr} (hxs : H sl = some (.lst xs)) (hb : H b = some (.tup (g.map V.int))) : KnL H0 (upd H sl (.lst (xs ++ [.ref b]))) sl fl (S ++ [g]) F := by
  obtain ⟨xs', h1, h2⟩ := h.ls
  rw [hxs] at h1
  cases h1
  obtain ⟨zs, h6, h7⟩ := h.lo
  have tp : Tp H (upd H sl (.lst (xs ++ [.ref b]))) := tp_put Tp.refl hxs
  exact ⟨⟨_, upd_same, (h2.mono fun o x => OptIn.tp tp).snoc ⟨b, rfl, tp _ _ hb⟩⟩, ⟨zs, by rw [upd_ne hsk.symm]; exact h6, h7.mono fun o x => PosIn.tp tp⟩, h.f1, h.f3, same_put h.s h.f1⟩
theorem KnL.row {H0 H : Hp} {sl fl : Addr} {S : List (List Int)} {F : Ar} (h : KnL H0 H sl fl S F) (hsk : sl ≠ fl) {os : Pos'} {zs : List V} {t : Addr} {ys : List V} (hzs : H fl = some (.lst zs)) (ht : H t = some (.tup ys)) (hys : Each (OptIn H) os ys) : KnL H0 (upd H fl (.lst (zs ++ [.ref t]))) sl fl S (F ++ [os]) := by
  obtain ⟨xs, h1, h2⟩ := h.ls
  obtain ⟨zs', h6, h7⟩ := h.lo
  rw [hzs] at h6
  cases h6
  have tp : Tp H (upd H fl (.lst (zs ++ [.ref t]))) := tp_put Tp.refl hzs
  exact ⟨⟨xs, by rw [upd_ne hsk]; exact h1, h2.mono fun o x => OptIn.tp tp⟩, ⟨_, upd_same, (h7.mono fun o x => PosIn.tp tp).snoc ⟨t, ys, rfl, tp _ _ ht, hys.mono fun o x => OptIn.tp tp⟩⟩, h.f1, h.f3, same_put h.s h.f3⟩
theorem KnL.put {H0 H : Hp} {sl fl ol : Addr} {S : List (List Int)} {F : Ar} (h : KnL H0 H sl fl S F) (h1 : sl ≠ ol) (h3 : fl ≠ ol) (h0 : H0 ol = none) {ys zs : List V} (hy : H ol = some (.lst ys)) : KnL H0 (upd H ol (.lst zs)) sl fl S F := by
  obtain ⟨xs, a1, a2⟩ := h.ls
  obtain ⟨zs', a6, a7⟩ := h.lo
  have tp : Tp H (upd H ol (.lst zs)) := tp_put Tp.refl hy
  exact ⟨⟨xs, by rw [upd_ne h1]; exact a1, a2.mono fun o x => OptIn.tp tp⟩, ⟨zs', by rw [upd_ne h3]; exact a6, a7.mono fun o x => PosIn.tp tp⟩, h.f1, h.f3, same_put h.s h0⟩
theorem hu65_of {A : Around} {k : Nat} (hr : Room k A) : A.units + 65 < cLine := by
  have := hr.un
  omega
/-- options lead to few positions, all of a set's positions together -/
def Sml (A : Ar) (rd : Int → Int) : Prop := ∀ g, KS rd (A.length : Int) g → ∀ i, i < wid A g → (aft A g i).length < 64
end NL

set_option maxHeartbeats 4000000
namespace NL
open PySem PySem.Spec PyProof.Rows L2
/-! ### few known sets -/
def pw : List Int → List (List Int)
  | [] => [[]]
  | a :: r => pw r ++ (pw r).map (a :: ·)
theorem pw_len : ∀ l : List Int, (pw l).length = 2 ^ l.length
  | [] => rfl
  | a :: r => by
    unfold pw
    rw [List.length_append, List.length_map, pw_len r, List.length_cons, Nat.pow_succ]
    omega
theorem mem_pw : ∀ {l g : List Int}, Asc l → Asc g → (∀ x ∈ g, x ∈ l) → g ∈ pw l
  | [], [], _, _, _ => List.mem_singleton.mpr rfl
  | [], a :: g, _, _, h => by have := h a List.mem_cons_self; cases this
  | a :: r, g, hl, hg, h => by
    obtain ⟨h1, h2⟩ := List.pairwise_cons.mp hl
    unfold pw
    by_cases ha : a ∈ g
    · cases g with
      | nil => cases ha
      | cons b t =>
        obtain ⟨g1, g2⟩ := List.pairwise_cons.mp hg
        have e : a = b := by
          rcases List.mem_cons.mp ha with e | e
          · exact e
          · have q1 := g1 a e
            rcases List.mem_cons.mp (h b List.mem_cons_self) with e' | e'
            · exact e'.symm
            · have q2 := h1 b e'
              omega
        subst e
        refine List.mem_append_right _ (List.mem_map.mpr ⟨t, mem_pw h2 g2 fun x hx => ?_, rfl⟩)
        rcases List.mem_cons.mp (h x (List.mem_cons_of_mem _ hx)) with e' | e'
        · have := g1 x hx
          omega
        · exact e'
    · refine List.mem_append_left _ (mem_pw h2 hg fun x hx => ?_)
      rcases List.mem_cons.mp (h x hx) with e' | e'
      · exact absurd (e' ▸ hx) ha
      · exact e'
theorem nd_sub : ∀ {S U : List (List Int)}, S.Nodup → (∀ x ∈ S, x ∈ U) → S.length ≤ U.length
  | [], _, _, _ => Nat.zero_le _
  | a :: S, U, h, hs => by
    obtain ⟨h1, h2⟩ := List.nodup_cons.mp h
    have ha := hs a List.mem_cons_self
    have := nd_sub (U := U.erase a) h2 fun x hx => (List.mem_erase_of_ne (fun e => h1 (by rw [← e]; exact hx))).mpr (hs x (List.mem_cons_of_mem _ hx))
    rw [List.length_erase_of_mem ha] at this
    have hp := List.length_pos_of_mem ha
    rw [List.length_cons]
    omega
def psI (n : Nat) : List Int := (List.range n).map fun k : Nat => (k : Int)
theorem mem_psI {n : Nat} {p : Int} : p ∈ psI n ↔ 0 ≤ p ∧ p < (n : Int) := by
  unfold psI
  rw [List.mem_map]
  constructor
  · rintro ⟨k, hk, rfl⟩
    have := List.mem_range.mp hk
    omega
  · intro h
    exact ⟨p.toNat, List.mem_range.mpr (by omega), by omega⟩
theorem asc_psI (n : Nat) : Asc (psI n) := by
  unfold psI
  refine List.pairwise_map.mpr (List.pairwise_lt_range.imp fun {a b} h => by omega)
def lat (rd : Int → Int) (n : Nat) (p : Int) : List Int := (psI n).filter fun q => decide (p < q) && decide (rd p = rd q)
def unv (rd : Int → Int) (n : Nat) : List (List Int) := (psI n).flatMap fun p => (pw (lat rd n p)).map (p :: ·)
/-- equal readings stand near each other -/
def Near (rd : Int → Int) (n k : Nat) : Prop := ∀ p q : Int, 0 ≤ p → p < q → q < (n : Int) → rd p = rd q → q ≤ p + (k : Int)
theorem ks_unv {rd : Int → Int} {n : Nat} {g : List Int} (h : KS rd (n : Int) g) : g ∈ unv rd n := by
  cases g with
  | nil => exact absurd rfl h.ne
  | cons p t =>
    obtain ⟨h1, h2⟩ := List.pairwise_cons.mp h.asc
    refine List.mem_flatMap.mpr ⟨p, mem_psI.mpr (h.mem p List.mem_cons_self), List.mem_map.mpr ⟨t, mem_pw (asc_filter _ (asc_psI n)) h2 fun x hx => ?_, rfl⟩⟩
    refine List.mem_filter.mpr ⟨mem_psI.mpr (h.mem x (List.mem_cons_of_mem _ hx)), ?_⟩
    rw [decide_eq_true (h1 x hx), decide_eq_true (h.one p List.mem_cons_self x (List.mem_cons_of_mem _ hx))]
    rfl
theorem lat_len {rd : Int → Int} {n k : Nat} (h : Near rd n k) {p : Int} (hp : 0 ≤ p) : (lat rd n p).length ≤ k := by
  have := asc_short (l := lat rd n p) (lo := p + 1) (hi := p + 1 + (k : Int)) (asc_filter _ (asc_psI n)) (fun x hx => by
    obtain ⟨h1, h2⟩ := List.mem_filter.mp hx
    rw [Bool.and_eq_true, decide_eq_true_iff, decide_eq_true_iff] at h2
    have := mem_psI.mp h1
    have := h p x hp h2.1 this.2 h2.2
    omega) (by omega)
  omega
theorem few_of {rd : Int → Int} {n k : Nat} (h : Near rd n k) (hb : n * 2 ^ k ≤ 300) : Few rd (n : Int) := fun S hS hK => by
  refine Nat.le_trans (nd_sub hS fun x hx => ks_unv (hK x hx)) (Nat.le_trans ?_ hb)
  unfold unv
  rw [List.length_flatMap]
  have hsum : ∀ l : List Int, (∀ p ∈ l, 0 ≤ p) → (l.map fun p => ((pw (lat rd n p)).map (p :: ·)).length).sum ≤ l.length * 2 ^ k := fun l => by
    induction l with
    | nil => exact fun _ => Nat.zero_le _
    | cons a r ih =>
      intro hl
      rw [List.map_cons, List.sum_cons, List.length_map, pw_len, List.length_cons, Nat.succ_mul]
      have h1 := ih fun p hp => hl p (List.mem_cons_of_mem _ hp)
      have h2 : 2 ^ (lat rd n a).length ≤ 2 ^ k := Nat.pow_le_pow_right (by decide) (lat_len h (hl a List.mem_cons_self))
      omega
  have := hsum (psI n) fun p hp => (mem_psI.mp hp).1
  have hl : (psI n).length = n := by unfold psI; rw [List.length_map, List.length_range]
  rw [hl] at this
  exact this
theorem ks_len {rd : Int → Int} {n k : Nat} (h : Near rd n k) {g : List Int} (hg : KS rd (n : Int) g) : g.length ≤ k + 1 := by
  cases g with
  | nil => exact Nat.zero_le _
  | cons p t =>
    obtain ⟨h1, h2⟩ := List.pairwise_cons.mp hg.asc
    have hp := hg.mem p List.mem_cons_self
    have := asc_short (l := t) (lo := p + 1) (hi := p + 1 + (k : Int)) h2 (fun x hx => by
      have hx' := hg.mem x (List.mem_cons_of_mem _ hx)
      have := h p x hp.1 (h1 x hx) hx'.2 (hg.one p List.mem_cons_self x (List.mem_cons_of_mem _ hx))
      have := h1 x hx
      omega) (by omega)
    rw [List.length_cons]
    omega
theorem sml_of {A : Ar} {rd : Int → Int} {k m : Nat} (hG : ArG A) (h : Near rd A.length k) (hm : ∀ os ∈ A, ∀ o ∈ os, o.length ≤ m) (hb : (k + 1) * m < 64) : Sml A rd := fun g hg i hi => by
  have hl := ks_len h hg
  have : ∀ l : List Int, (∀ p ∈ l, p ∈ g) → (l.flatMap fun p => optOf A p i).length ≤ l.length * m := fun l => by
    induction l with
    | nil => exact fun _ => Nat.zero_le _
    | cons a r ih =>
      intro hlg
      have ha := hlg a List.mem_cons_self
      obtain ⟨os, o, _, _, e, _, _, h1, h2⟩ := optOf_g hG (hg.mem a ha).1 (hg.mem a ha).2 (Nat.lt_of_lt_of_le hi (wid_le a ha))
      have h3 := hm os h2 o h1
      have h4 := ih fun p hp => hlg p (List.mem_cons_of_mem _ hp)
      rw [List.flatMap_cons, List.length_append, List.length_cons, Nat.succ_mul, e]
      omega
  have h1 := this g fun p hp => hp
  have h2 : g.length * m ≤ (k + 1) * m := Nat.mul_le_mul_right m hl
  unfold aft
  omega
theorem near_small (rd : Int → Int) {n : Nat} (h : n ≤ 6) : Near rd n 5 := fun p q p0 hpq hq _ => by omega
theorem opt_short {A : Ar} (hG : ArG A) (h : A.length ≤ 6) : ∀ os ∈ A, ∀ o ∈ os, o.length ≤ 7 := fun os hos o ho => by
  have hO := (hG.2 os hos).2 o ho
  have := asc_short (l := o) (lo := -1) (hi := (A.length : Int)) hO.asc (fun x hx => hO.mem x hx) (by omega)
  omega
/-! ### the known arena is right -/
theorem optK_ne {A : Ar} {rd : Int → Int} {S : List (List Int)} {Kk : List Int} {i : Nat} (hG : ArG A) (hK : KS rd (A.length : Int) Kk) (hi : i < wid A Kk) : optK A rd S Kk i ≠ [] := by
  obtain ⟨p, hp⟩ := List.exists_mem_of_ne_nil _ hK.ne
  obtain ⟨os, o, _, _, e, _, hO, _⟩ := optOf_g hG (hK.mem p hp).1 (hK.mem p hp).2 (Nat.lt_of_lt_of_le hi (wid_le p hp))
  obtain ⟨s, hs⟩ := List.exists_mem_of_ne_nil _ hO.ne
  have hsa : s ∈ aft A Kk i := List.mem_flatMap.mpr ⟨p, hp, by rw [e]; exact hs⟩
  intro h
  by_cases h1 : s = -1
  · subst h1
    have := (mem_optK (A := A) (rd := rd) (S := S) (Kk := Kk) (i := i)).mpr (.inl ⟨rfl, hsa⟩)
    rw [h] at this
    cases this
  · have hf : s ∈ (succs A Kk i).filter fun p => !decide (p = -1) := List.mem_filter.mpr ⟨mem_srt.mpr hsa, by simp [h1]⟩
    have := (mem_optK (A := A) (rd := rd) (S := S) (Kk := Kk) (i := i)).mpr (.inr (List.mem_map.mpr ⟨_, prt_of hf, rfl⟩))
    rw [h] at this
    cases this
theorem fol_few {A : Ar} {rd : Int → Int} {Kk : List Int} {i : Nat} (hG : ArG A) (hK : KS rd (A.length : Int) Kk) (hi : i < wid A Kk) : (fol A rd Kk i).length ≤ A.length := by
  have h1 : (fol A rd Kk i).length ≤ _ := prt_len
  have h2 := asc_short (l := (succs A Kk i).filter fun p => !decide (p = -1)) (lo := 0) (hi := (A.length : Int)) (asc_filter _ asc_srt) (fun x hx => by
    obtain ⟨h1, h2⟩ := List.mem_filter.mp hx
    have := succs_mem hG hK.mem (fun p hp => Nat.lt_of_lt_of_le hi (wid_le p hp)) x h1
    have h3 : x ≠ -1 := by simpa using h2
    omega) (by omega)
  omega
theorem optK_good {A : Ar} {rd : Int → Int} {S : List (List Int)} {Kk : List Int} {i : Nat} (hG : ArG A) (hn : A.length ≤ 46) (hK : KS rd (A.length : Int) Kk) (hi : i < wid A Kk) (hin : ∀ g ∈ fol A rd Kk i, g ∈ S) : OptG (S.length : Int) (optK A rd S Kk i) := by
  refine ⟨optK_ne hG hK hi, ?_, fun s hs => ?_, asc_optK⟩
  · have h1 := fol_few hG hK hi
    have h2 := srt_len (l := (fol A rd Kk i).map fun g => ((nr S g : Nat) : Int))
    rw [List.length_map] at h2
    have h3 : ((if (-1 : Int) ∈ succs A Kk i then [-1] else []) : List Int).length ≤ 1 := by split <;> simp
    unfold optK
    rw [List.length_append]
    omega
  · rcases mem_optK.mp hs with ⟨e, _⟩ | h
    · omega
    · obtain ⟨g, hg, e⟩ := List.mem_map.mp h
      have := nr_lt (hin g hg)
      have e : ((nr S g : Nat) : Int) = s := e
      omega
theorem kn_good {A : Ar} {rd : Int → Int} {st : List Int} {F : Ar} {S : List (List Int)} (hG : ArG A) (hn : A.length ≤ 46) (hs : Asc st) (hm : ∀ p ∈ st, 0 ≤ p ∧ p < (A.length : Int)) (hf : Few rd (A.length : Int)) (h : IsKn A rd st F S) : ArG F := by
  obtain ⟨I, hl⟩ := h.inv hG hs hm
  have h300 := hf S I.nd I.ks
  refine ⟨by omega, fun os hos => ?_⟩
  obtain ⟨k, hk⟩ := List.getElem?_of_mem hos
  have hkl := (List.getElem?_eq_some_iff.mp hk).1
  have hKk : S[k]? = some S[k] := List.getElem?_eq_getElem (by omega)
  obtain ⟨r1, r2⟩ := I.row k _ hkl hKk
  have hKS := I.ks _ (List.mem_of_getElem? hKk)
  rw [hk] at r1
  have r1 := Option.some.inj r1
  rw [r1]
  refine ⟨?_, fun o ho => ?_⟩
  · rw [List.length_map, List.length_range]
    obtain ⟨p, hp, e⟩ := wid_mem (A := A) hKS.ne
    obtain ⟨p0, p1⟩ := hKS.mem p hp
    have hk2 : p.toNat < A.length := by omega
    have h1 := (hG.2 _ (List.getElem_mem hk2)).1
    have e2 := lenOf_at (A := A) (p := p) (List.getElem?_eq_getElem hk2)
    omega
  · obtain ⟨i, hi, e⟩ := List.mem_map.mp ho
    have hi := List.mem_range.mp hi
    rw [← e, hl]
    exact optK_good hG hn hKS hi (r2 i hi)
theorem alk_ints {H : Hp} {u v : V} {g : List Int} (hl : g.length ≤ 1000000) (hu : OptIn H g u) (hv : OptIn H g v) : Alk 2 H u v := by
  obtain ⟨a, rfl, ha⟩ := hu
  obtain ⟨b, rfl, hb⟩ := hv
  exact Alk.ints ha hb hl
theorem alk_pos {H : Hp} {u v : V} {os : Pos'} (hl : os.length ≤ 1000000) (hO : ∀ o ∈ os, o.length ≤ 1000000) (hu : PosIn H os u) (hv : PosIn H os v) : Alk 3 H u v := by
  obtain ⟨a, xs, rfl, ha, hxs⟩ := hu
  obtain ⟨b, ys, rfl, hb, hys⟩ := hv
  refine .inr (.inr (.inr ⟨a, b, xs, ys, rfl, rfl, ha, hb, by rw [hxs.1, hys.1], by rw [hys.1]; exact hl, fun k x y hx hy => ?_⟩))
  have hk := (List.getElem?_eq_some_iff.mp hx).1
  rw [hxs.1] at hk
  have ho := List.getElem?_eq_getElem hk
  exact alk_ints (hO _ (List.mem_of_getElem? ho)) (hxs.2 k _ x ho hx) (hys.2 k _ y ho hy)
theorem alk_ar {H : Hp} {u v : V} {A : Ar} (hl : A.length ≤ 1000000) (hP : ∀ os ∈ A, os.length ≤ 1000000 ∧ ∀ o ∈ os, o.length ≤ 1000000) (hu : ArIn H A u) (hv : ArIn H A v) : Alk 4 H u v := by
  obtain ⟨a, xs, rfl, ha, hxs⟩ := hu
  obtain ⟨b, ys, rfl, hb, hys⟩ := hv
  refine .inr (.inr (.inr ⟨a, b, xs, ys, rfl, rfl, ha, hb, by rw [hxs.1, hys.1], by rw [hys.1]; exact hl, fun k x y hx hy => ?_⟩))
  have hk := (List.getElem?_eq_some_iff.mp hx).1
  rw [hxs.1] at hk
  have ho := List.getElem?_eq_getElem hk
  have hp := hP _ (List.mem_of_getElem? ho)
  exact alk_pos hp.1 hp.2 (hxs.2 k _ x ho hx) (hys.2 k _ y ho hy)
theorem Alk.up : ∀ {n : Nat} {H : Hp} {u v : V}, Alk n H u v → Alk (n + 1) H u v
  | 0, _, _, _, h => h.elim
  | n + 1, H, u, v, h => by
    rcases h with h | h | h | ⟨a, b, xs, ys, e1, e2, h1, h2, h3, h4, h5⟩
    · exact .inl h
    · exact .inr (.inl h)
    · exact .inr (.inr (.inl h))
    · exact .inr (.inr (.inr ⟨a, b, xs, ys, e1, e2, h1, h2, h3, h4, fun k x y hx hy => (h5 k x y hx hy).up⟩))
theorem kn_alk {H : Hp} {u v : V} {F : Ar} {S : List (List Int)} (hF : ArG F) (hS : S.length ≤ 300) (hK : ∀ g ∈ S, g.length ≤ 1000000) (hu : KnIn H F S u) (hv : KnIn H F S v) : Alk 5 H u v := by
  obtain ⟨a, x1, y1, rfl, ha, hx1, hy1⟩ := hu
  obtain ⟨b, x2, y2, rfl, hb, hx2, hy2⟩ := hv
  refine .inr (.inr (.inr ⟨a, b, _, _, rfl, rfl, ha, hb, rfl, by show 2 ≤ 1000000; decide, fun k x y hx hy => ?_⟩))
  match k, hx, hy with
  | 0, hx, hy =>
    cases hx
    cases hy
    exact alk_ar (Nat.le_trans hF.1 (by decide)) (fun os hos => ⟨Nat.le_trans (hF.2 os hos).1 (by decide), fun o ho => Nat.le_trans ((hF.2 os hos).2 o ho).len (by decide)⟩) hx1 hx2
  | 1, hx, hy =>
    cases hx
    cases hy
    exact (alk_pos (by omega) hK hy1 hy2).up
  | k + 2, hx, hy => cases hx
end NL

set_option maxHeartbeats 4000000
namespace NL
open PySem PySem.Spec PyProof.Rows L2
theorem pi_tupK {X : Cx} {K : PySem.W.Frag} {tg l : Expr} {tl : TE} (h : X.K = K) (hl : PE X l tl) : PI X tg l (iTup K tl) := by
  subst h
  exact pi_tup hl
theorem cr_allK {X : Cx} {K : PySem.W.Frag} (h : X.K = K) (hc : X.calm = true) : CallR X (.builtin "all") (rAll K) := by
  subst h
  exact cr_all hc
theorem ArG.inA {A : Ar} (h : ArG A) : InA A A.length := fun os hos o ho p hp => ((h.2 os hos).2 o ho).mem p hp
/-! ### ranks of all positions -/
theorem rk_ex (f : Nat → Mk') (p : Int) : ∃ ro, IsRk f p ro := by
  by_cases h : ∃ j, f j p = true
  · have ex : ∀ n j, j ≤ n → f j p = true → ∃ r, f r p = true ∧ ∀ j, j < r → f j p = false := by
      intro n
      induction n with
      | zero =>
        intro j hj hf
        have : j = 0 := by omega
        subst this
        exact ⟨0, hf, fun j hj => absurd hj (Nat.not_lt_zero j)⟩
      | succ n ih =>
        intro j hj hf
        by_cases hl : ∃ i, i < j ∧ f i p = true
        · obtain ⟨i, hi, hfi⟩ := hl
          exact ih i (by omega) hfi
        · refine ⟨j, hf, fun i hi => ?_⟩
          cases hfi : f i p with
          | false => rfl
          | true => exact absurd ⟨i, hi, hfi⟩ hl
    obtain ⟨j, hj⟩ := h
    obtain ⟨r, h1, h2⟩ := ex j j (Nat.le_refl j) hj
    exact ⟨some r, h1, h2⟩
  · refine ⟨none, fun j => ?_⟩
    cases hf : f j p with
    | false => rfl
    | true => exact absurd ⟨j, hf⟩ h
noncomputable def rkF (f : Nat → Mk') (p : Int) : Option Nat := Classical.choose (rk_ex f p)
theorem rkF_is (f : Nat → Mk') (p : Int) : IsRk f p (rkF f p) := Classical.choose_spec (rk_ex f p)
theorem rkF_eq {f : Nat → Mk'} {p : Int} {ro : Option Nat} (h : IsRk f p ro) : rkF f p = ro := (rkF_is f p).uniq h
/-- the marks of a goal: st, to stay; else to come -/
def gF (st : Bool) (A : Ar) (Kp : List Int) : Nat → Mk' := mr A (if st = true then 1 else 0) (psA A.length) (mkO st (fun p => if st = true then !decide (p ∈ Kp) else decide (p ∈ Kp)))
theorem gF_up {st : Bool} {A : Ar} {Kp : List Int} (k : Nat) (p : Int) (h : gF st A Kp k p = true) : gF st A Kp (k + 1) p = true := mr_up h
theorem gF_out {st : Bool} {A : Ar} {Kp : List Int} (k : Nat) : gF st A Kp k (-1) = st := by
  have : gF st A Kp k (-1) = mkO st (fun p => if st = true then !decide (p ∈ Kp) else decide (p ∈ Kp)) (-1) := mr_out (fun h => by
    have := psA_mem.mp h
    omega) k
  exact this
theorem gF_0 {st : Bool} {A : Ar} {Kp : List Int} {p : Int} (h : 0 ≤ p) : gF st A Kp 0 p = if st = true then !decide (p ∈ Kp) else decide (p ∈ Kp) := by
  show mkO st (fun p => if st = true then !decide (p ∈ Kp) else decide (p ∈ Kp)) p = _
  unfold mkO
  exact if_neg (by omega)
theorem gF_s {st : Bool} {A : Ar} {Kp : List Int} {k i : Nat} {os : Pos'} (hi : A[i]? = some os) : gF st A Kp (k + 1) (i : Int) = (gF st A Kp k (i : Int) || frcM (if st = true then 1 else 0) os (gF st A Kp k)) := by
  have hl := (List.getElem?_eq_some_iff.mp hi).1
  have h1 : decide ((i : Int) ∈ psA A.length) = true := decide_eq_true (psA_mem.mpr (by omega))
  have h2 : psO A (i : Int) = os := psO_at (by omega) (by rw [Int.toNat_natCast]; exact hi)
  show (gF st A Kp k (i : Int) || (decide ((i : Int) ∈ psA A.length) && frcM (if st = true then 1 else 0) (psO A (i : Int)) (gF st A Kp k))) = _
  rw [h1, h2, Bool.true_and]
noncomputable def gR (st : Bool) (A : Ar) (Kp : List Int) (p : Int) : Option Nat := rkF (gF st A Kp) p
theorem gR_is (st : Bool) (A : Ar) (Kp : List Int) (p : Int) : IsRk (gF st A Kp) p (gR st A Kp p) := rkF_is _ _
end NL

set_option maxHeartbeats 4000000
namespace NL
open PySem PySem.Spec PyProof.Rows L2
theorem asc_len {l : List Int} {n : Nat} {lo : Int} (ha : l.Pairwise (· < ·)) (hm : ∀ x ∈ l, lo ≤ x ∧ x < (n : Int)) (h0 : lo ≤ n) : (l.length : Int) ≤ n - lo := by
  induction l generalizing lo with
  | nil => show (0 : Int) ≤ _; omega
  | cons a r ih =>
    have h1 := hm a (List.mem_cons_self ..)
    have := ih (lo := a + 1) (List.Pairwise.of_cons ha) (fun x hx => by
      have h2 := List.rel_of_pairwise_cons ha hx
      have h3 := hm x (List.mem_cons_of_mem _ hx)
      omega) (by omega)
    rw [List.length_cons]
    omega
theorem KpG.len {n : Nat} {Kp : List Int} (h : KpG n Kp) : Kp.length ≤ n := by
  have := asc_len h.asc h.mem (by omega)
  omega
def sfR (A : Ar) (Kp : List Int) (r : Nat) : List Int := Kp.filter fun p => !gF true A Kp r p
noncomputable def sfE (A : Ar) (Kp : List Int) : List Int := Kp.filter fun p => (gR true A Kp p).isNone
theorem sfR_mem {A : Ar} {Kp : List Int} {r : Nat} {x : Int} (h : -1 ≤ x) : x ∈ sfR A Kp r ↔ gF true A Kp r x = false := by
  unfold sfR
  rw [List.mem_filter]
  constructor
  · rintro ⟨_, h2⟩
    simpa using h2
  · intro h2
    refine ⟨?_, by rw [h2]; rfl⟩
    have hx : x ≠ -1 := fun e => by
      rw [e, gF_out] at h2
      cases h2
    have h0 : gF true A Kp 0 x = false := by
      cases h3 : gF true A Kp 0 x with
      | false => rfl
      | true =>
        have := up_le (f := gF true A Kp) (fun k p e => gF_up k p e) (Nat.zero_le r) h3
        rw [h2] at this
        cases this
    rw [gF_0 (by omega), if_pos rfl] at h0
    by_cases hm : x ∈ Kp
    · exact hm
    · rw [decide_eq_false hm] at h0
      cases h0
theorem sfE_mem {A : Ar} {Kp : List Int} {x : Int} (h : -1 ≤ x) : x ∈ sfE A Kp ↔ gR true A Kp x = none := by
  unfold sfE
  rw [List.mem_filter]
  constructor
  · rintro ⟨_, h2⟩
    exact Option.isNone_iff_eq_none.mp h2
  · intro h2
    have h3 := gR_is true A Kp x
    rw [h2] at h3
    exact ⟨(List.mem_filter.mp ((sfR_mem (r := 0) h).mpr (h3 0))).1, by rw [h2]; rfl⟩
def stpS (A : Ar) (S : List Int) (p : Int) : Bool := ((A[p.toNat]?).getD []).any fun o => o.all fun x => decide (x ∈ S)
theorem sf_step {A : Ar} {Kp : List Int} (hin : InA A A.length) (hK : KpG A.length Kp) (r : Nat) : sfR A Kp (r + 1) = (sfR A Kp r).filter (stpS A (sfR A Kp r)) := by
  have h1 : sfR A Kp (r + 1) = Kp.filter fun p => (!gF true A Kp r p) && stpS A (sfR A Kp r) p := by
    refine List.filter_congr fun p hp => ?_
    have hb := hK.mem p hp
    obtain ⟨os, hos⟩ : ∃ os, A[p.toNat]? = some os := ⟨_, List.getElem?_eq_getElem (by omega)⟩
    have hs := gF_s (st := true) (Kp := Kp) (k := r) hos
    rw [show ((p.toNat : Nat) : Int) = p by omega, if_pos rfl] at hs
    rw [hs, Bool.not_or]
    congr 1
    unfold stpS frcM
    rw [hos, if_neg (by decide)]
    show (!os.all fun o => o.any (gF true A Kp r)) = os.any fun o => o.all fun x => decide (x ∈ sfR A Kp r)
    rw [List.not_all_eq_any_not]
    refine any_congr' fun o ho => ?_
    rw [List.not_any_eq_all_not]
    refine all_congr' fun x hx => ?_
    have hxm := hin os (List.mem_of_getElem? hos) o ho x hx
    cases hf : gF true A Kp r x with
    | false => exact (decide_eq_true ((sfR_mem hxm.1).mpr hf)).symm
    | true => exact (decide_eq_false fun e => by rw [(sfR_mem hxm.1).mp e] at hf; cases hf).symm
  rw [h1]
  unfold sfR
  rw [List.filter_filter]
  exact List.filter_congr fun p _ => Bool.and_comm _ _
/-- a round in which nothing is left out is the last one -/
theorem sf_done {A : Ar} {Kp : List Int} (hin : InA A A.length) (hK : KpG A.length Kp) {r : Nat} (h : sfR A Kp (r + 1) = sfR A Kp r) : sfR A Kp r = sfE A Kp := by
  have hst : ∀ L, r ≤ L → sfR A Kp L = sfR A Kp r := fun L hL => by
    induction hL with
    | refl => rfl
    | step _ ih => rw [sf_step hin hK, ih, ← sf_step hin hK, h]
  unfold sfE
  refine List.filter_congr fun p hp => ?_
  have hb := hK.mem p hp
  have hr := gR_is true A Kp p
  cases hR : gR true A Kp p with
  | none =>
    rw [hR] at hr
    rw [hr r]
    rfl
  | some a =>
    rw [hR] at hr
    have h2 : gF true A Kp r p = true := by
      cases hf : gF true A Kp r p with
      | true => rfl
      | false =>
        have h3 := (sfR_mem (A := A) (Kp := Kp) (r := r) (by omega)).mpr hf
        rw [← hst (max r a) (Nat.le_max_left r a)] at h3
        have h4 := (sfR_mem (A := A) (Kp := Kp) (by omega)).mp h3
        rw [up_le (fun k p e => gF_up k p e) (Nat.le_max_right r a) hr.1] at h4
        cases h4
    rw [h2]
    rfl
theorem filter_lt {α : Type} {p : α → Bool} {l : List α} (h : l.filter p ≠ l) : (l.filter p).length < l.length := by
  have h1 := List.length_filter_le p l
  rcases Nat.lt_or_ge (l.filter p).length l.length with h2 | h2
  · exact h2
  · exact absurd (List.Sublist.eq_of_length List.filter_sublist (by omega)) h
end NL

set_option maxHeartbeats 4000000
namespace NL
open PySem PySem.Spec PyProof.Rows L2
/-! ### can_know -/
/-- the numbers of the sets that lie in Kp -/
def insK (S : List (List Int)) (Kp : List Int) : Nat → List Int
  | 0 => []
  | n + 1 => insK S Kp n ++ if ((S[n]?).getD []).all (fun p => decide (p ∈ Kp)) = true then [(n : Int)] else []
theorem insK_mem {S : List (List Int)} {Kp : List Int} : ∀ {n : Nat} {x : Int}, x ∈ insK S Kp n ↔ 0 ≤ x ∧ x < (n : Int) ∧ ∀ p ∈ (S[x.toNat]?).getD [], p ∈ Kp
  | 0, x => ⟨fun h => (nomatch h), fun h => by omega⟩
  | n + 1, x => by
    unfold insK
    rw [List.mem_append, insK_mem]
    have hone : x ∈ (if ((S[n]?).getD []).all (fun p => decide (p ∈ Kp)) = true then [(n : Int)] else []) ↔ x = (n : Int) ∧ ∀ p ∈ (S[x.toNat]?).getD [], p ∈ Kp := by
      by_cases h : ((S[n]?).getD []).all (fun p => decide (p ∈ Kp)) = true
      · rw [if_pos h, List.mem_singleton]
        refine ⟨fun e => ⟨e, fun p hp => ?_⟩, fun e => e.1⟩
        rw [e, Int.toNat_natCast] at hp
        exact of_decide_eq_true (List.all_eq_true.mp h p hp)
      · rw [if_neg h]
        refine ⟨fun e => (nomatch e), fun e => absurd (List.all_eq_true.mpr fun p hp => decide_eq_true (e.2 p ?_)) h⟩
        rw [e.1, Int.toNat_natCast]
        exact hp
    rw [hone]
    constructor
    · rintro (h | h)
      · exact ⟨h.1, by omega, h.2.2⟩
      · exact ⟨by omega, by omega, h.2⟩
    · rintro ⟨h1, h2, h3⟩
      by_cases hx : x = (n : Int)
      · exact .inr ⟨hx, h3⟩
      · exact .inl ⟨h1, by omega, h3⟩
theorem insK_kp {S : List (List Int)} {Kp : List Int} : ∀ n : Nat, KpG n (insK S Kp n)
  | 0 => KpG.nil 0
  | n + 1 => by
    unfold insK
    split
    · have := (insK_kp (S := S) (Kp := Kp) n).snoc
      rw [Int.zero_add] at this
      exact this
    · rw [List.append_nil]
      exact (insK_kp n).up (Nat.le_succ n)
/-- the controller that sees only readings keeps Kp from the starts -/
def Knw (F : Ar) (S : List (List Int)) (Kp : List Int) (n : Nat) : Prop := ∀ k : Nat, k < n → ∀ j, gF true F (insK S Kp S.length) j (k : Int) = false
theorem gF_true (A : Ar) (Kp : List Int) : gF true A Kp = mr A 1 (psA A.length) (mkO true fun p => !decide (p ∈ Kp)) := rfl
theorem kn_good' {A : Ar} {rd : Int → Int} {st : List Int} {F : Ar} {S : List (List Int)} (hG : ArG A) (hn : A.length ≤ 46) (hs : Asc st) (hm : ∀ p ∈ st, 0 ≤ p ∧ p < (A.length : Int)) (h300 : S.length ≤ 300) (h : IsKn A rd st F S) : ArG F := by
  obtain ⟨I, hl⟩ := h.inv hG hs hm
  refine ⟨by omega, fun os hos => ?_⟩
  obtain ⟨k, hk⟩ := List.getElem?_of_mem hos
  have hkl := (List.getElem?_eq_some_iff.mp hk).1
  have hKk : S[k]? = some S[k] := List.getElem?_eq_getElem (by omega)
  obtain ⟨r1, r2⟩ := I.row k _ hkl hKk
  have hKS := I.ks _ (List.mem_of_getElem? hKk)
  rw [hk] at r1
  have r1 := Option.some.inj r1
  rw [r1]
  refine ⟨?_, fun o ho => ?_⟩
  · rw [List.length_map, List.length_range]
    obtain ⟨p, hp, e⟩ := wid_mem (A := A) hKS.ne
    obtain ⟨p0, p1⟩ := hKS.mem p hp
    have hk2 : p.toNat < A.length := by omega
    have h1 := (hG.2 _ (List.getElem_mem hk2)).1
    have e2 := lenOf_at (A := A) (p := p) (List.getElem?_eq_getElem hk2)
    omega
  · obtain ⟨i, hi, e⟩ := List.mem_map.mp ho
    have hi := List.mem_range.mp hi
    rw [← e, hl]
    exact optK_good hG hn hKS hi (r2 i hi)
section
variable {P : Program} {w : World} {K : PySem.W.Frag} {mg : Str → Option Value} {base : Heap}
def spCan (K : PySem.W.Frag) (Pt : Addr) : Sp := fun vs H Q _ => ∃ (av : V) (kp ra sa : Addr) (A : Ar) (Kp R st : List Int), vs = [av, .ref kp, .ref ra, .ref sa] ∧ ArIn H A av ∧ ArG A ∧ A.length ≤ 46 ∧ H kp = some (.tup (Kp.map V.int)) ∧ H ra = some (.tup (R.map V.int)) ∧ R.length = A.length ∧ H sa = some (.tup (st.map V.int)) ∧ Asc st ∧ (∀ p ∈ st, 0 ≤ p ∧ p < (A.length : Int)) ∧ FewK A (rdF R) st ∧ GxR.TabG H Pt ∧
  ∀ F S (b : Bool) H', Sm Pt H H' → IsKn A (rdF R) st F S → (b = true ↔ Knw F S Kp (prt (rdF R) st).length) → Q (.bl b) H'
theorem ok_can_know (T : Txt K mg) {c Pt : Addr} (TB : GxR.TabB base mg c Pt) (hc : T.dforces.code = .ref c) : FnOk P w K mg base CX0 6 T.acan_know T.dcan_know Pcan_know (spCan K Pt) := by
  have G_parted := ok_parted (P := P) (w := w) (base := base) T
  have Gknown_arena := ok_known_arena (P := P) (w := w) (base := base) T
  have Gstay_ranks := ok_stay_ranks (P := P) (w := w) T TB hc
  refine T.Fcan_know.ok sccan_know (fun vs H Q E h => ?_) (fun cdv A outer s H vs Q E hr h => ?_)
  · obtain ⟨av, kp, ra, sa, A, Kp, R, st, rfl, _⟩ := h
    rfl
  obtain ⟨av, kp, ra, sa, A0, Kp, R, st, rfl, hA, hG, hn, hkp, hra, hRl, hsa, hst, hsm, hfew, hT, q⟩ := h
  have hstl : st.length ≤ 60 := by
    have := asc_short (lo := 0) (hi := (A0.length : Int)) hst (fun x hx => hsm x hx) (by omega)
    omega
  refine ⟨_, (pss_cons (ps_asg (pe_call Gknown_arena (hr.mono (by omega)) (by rfl) T.mknown_arena T.Fknown_arena.kp T.bknown_arena .nil pass0 (pa_cons (pv 0) (pa_cons (pv 2) (pa_cons (pv 3) pa_nil)))) (pg_tup rfl (pgs_cons (pg_name (i := 4) sccan_know.nd rfl (Or.inl rfl)) (pgs_cons (pg_name (i := 5) sccan_know.nd rfl (Or.inl rfl)) pgs_nil))))
    (pss_cons (ps_setLc (i := 6) (own := [("number", 7), ("places", 8)]) (g := (gTup K 2 (gCons (gName 7) (gCons (gName 8) gNil)))) (tt := _) rfl sccan_know.nd rfl rfl (sw_true rfl rfl rfl (by decide +kernel)) (pi_enumT (by rfl) T.z_enumerate (pa_cons (pv 5) pa_nil)) (blkOk_by (N := Ncan_know) (sc := defScope scan_know) (by decide +kernel)) (fun _ _ _ _ _ => (pg_tup rfl (pgs_cons (pg_name (i := 7) sccan_know.nd rfl (Or.inl rfl)) (pgs_cons (pg_name (i := 8) sccan_know.nd rfl (Or.inl rfl)) pgs_nil)))) (fun _ _ _ _ _ => (pts_one (pt_val (pe_callB (cr_allK (K := K) rfl rfl) (by rfl) T.z_all (by decide +kernel) (pa_cons (pe_lc (own := [("at", 9)]) (g := (gName 9)) (tt := tYes) rfl sccan_know.nd (pi_tupK (K := K) rfl (pv 8)) (blkOk_by (by rfl)) (fun _ _ _ _ _ => (pg_name (i := 9) sccan_know.nd rfl (Or.inl rfl))) (fun _ _ _ _ _ => pts_nil) (fun _ _ _ _ _ => (pe_cmpR (op_in_seqK (K := K) rfl) (pv 9) (pv 1) (by rfl)))) pa_nil))))) (fun _ _ _ _ _ => (pv 7)))
    (pss_cons (ps_set (i := 10) sccan_know.nd rfl (Or.inl rfl) (pe_call Gstay_ranks (hr.mono (by omega)) (by rfl) T.mstay_ranks T.Fstay_ranks.kp T.bstay_ranks .nil pass0 (pa_cons (pv 4) (pa_cons (pv 6) pa_nil))))
    (pss_one (ps_ret (pe_callB (cr_all rfl) (by rfl) T.z_all (by decide +kernel) (pa_cons (pe_lc (own := [("rank", 11)]) (g := (gName 11)) (tt := tYes) rfl sccan_know.nd (pi_list (pe_slice sl_list (pv 10) po_none (po_some (pe_callB call_len_seq (by rfl) T.z_len PySem.boot_len (pa_cons (pe_call G_parted (hr.mono (by omega)) (by rfl) T.m_parted T.F_parted.kp T.b_parted .nil pass0 (pa_cons (pv 3) (pa_cons (pv 2) pa_nil))) pa_nil))))) (blkOk_by (N := Ncan_know) (sc := defScope scan_know) (by decide +kernel)) (fun _ _ _ _ _ => (pg_name (i := 11) sccan_know.nd rfl (Or.inl rfl))) (fun _ _ _ _ _ => pts_nil) (fun _ _ _ _ _ => (pe_cmpR op_isN (pv 11) pe_non (nomark _)))) pa_nil))))))), ?_⟩
  refine ⟨_, rfl, _, rfl, _, rfl, av, ra, sa, A0, R, st, rfl, hA, hG, hn, hra, hRl, hsa, hst, hsm, hfew, fun F S v H1 s1 hkn hin => ?_⟩
  obtain ⟨bk, xk, yk, rfl, hbk, hxk, bs, ys, rfl, hbs, hys⟩ := hin
  have hyl := hys.1
  obtain ⟨I, hFS⟩ := hkn.inv hG hst hsm
  have hS300 := hfew.of hkn
  have hFG := kn_good' hG hn hst hsm hS300 hkn
  refine ⟨bk, _, rfl, sqt hbk, rfl, _, _, rfl, _, _, rfl, rfl, ?_⟩
  refine ⟨_, rfl, bs, _, rfl, sqt hbs, fun L hL => ?_⟩
  refine lc_enumT (K := K) (a := bs) (xs := ys) (fun (j : Nat) (H' : Hp) => Same H1 H' ∧ H' L = some (.lst ((insK S Kp j).map V.int))) ?_ ?_ ?_ ?_
  · exact ⟨same_new hL _, upd_same⟩
  · rintro j H' ⟨s2, _⟩
    exact sqt (s2 _ _ hbs)
  · rintro j x t H2 hx ⟨s2, k2⟩ ht
    have hjl := (List.getElem?_eq_some_iff.mp hx).1
    obtain ⟨g, hg⟩ : ∃ g, S[j]? = some g := ⟨_, List.getElem?_eq_getElem (by omega)⟩
    obtain ⟨b, rfl, hb⟩ := hys.2 j g x hg hx
    obtain ⟨H3, e3, s3, k3⟩ := newH ht (.tup [.int (j : Nat), V.ref b])
    rw [e3]
    have s13 := s2.trans s3
    have hKS := I.ks g (List.mem_of_getElem? hg)
    have hgl : g.length ≤ 46 := by
      have := asc_short (lo := 0) (hi := (A0.length : Int)) hKS.asc (fun x hx => hKS.mem x hx) (by omega)
      omega
    refine ⟨t, _, rfl, sqt k3, rfl, _, _, rfl, _, _, rfl, rfl, rfl, ?_⟩
    refine ⟨_, rfl, b, rfl, ⟨_, sqt (s13 _ _ hb)⟩, fun M hM => ?_⟩
    refine lc_tup (K := K) (a := b) (xs := g.map V.int) (fun (m : Nat) (H' : Hp) => Same H3 H' ∧ H' M = some (.lst (((g.take m).map fun p => decide (p ∈ Kp)).map V.bl))) ?_ ?_ ?_ ?_
    · exact ⟨same_new hM _, upd_same⟩
    · rintro m H' _ ⟨s4, _⟩
      exact sqt (s4 _ _ (s13 _ _ hb))
    · rintro m x H4 hx4 ⟨s4, k4⟩
      rw [List.getElem?_map] at hx4
      obtain ⟨p, hp, rfl⟩ := Option.map_eq_some_iff.mp hx4
      have hml := (List.getElem?_eq_some_iff.mp hp).1
      refine ⟨rfl, yes_if ?_⟩
      refine ⟨_, rfl, _, rfl, kp, _, rfl, .inr (sqt (s4 _ _ (s13 _ _ (s1 _ _ hkp)))), rfl, flat_ints' Kp, _, k4, big' (by rw [List.length_map, List.length_map, List.length_take]; omega), same_put s4 hM, ?_⟩
      rw [upd_same, if_neg Bool.false_ne_true, int_in, List.take_add_one, hp, List.map_append, List.map_append]
      rfl
    · rintro H4 ⟨s4, k4⟩
      rw [List.length_map, List.take_length] at k4
      refine ⟨M, _, rfl, sqd k4, ?_⟩
      rw [List.all_map]
      have s14 := s13.trans s4
      have k24 := s4 _ _ (s3 _ _ k2)
      have hil : (insK S Kp j).length ≤ 300 := by
        have := (insK_kp (S := S) (Kp := Kp) j).len
        omega
      have hnx : insK S Kp (j + 1) = insK S Kp j ++ if g.all (fun p => decide (p ∈ Kp)) = true then [(j : Int)] else [] := by
        show insK S Kp j ++ (if ((S[j]?).getD []).all _ = true then _ else _) = _
        rw [hg]
        rfl
      cases hall : g.all fun p => decide (p ∈ Kp) with
      | true =>
        refine ⟨true, by rw [show g.all (id ∘ fun p => decide (p ∈ Kp)) = g.all fun p => decide (p ∈ Kp) from rfl, hall] <;> rfl, ?_⟩
        refine iteT ⟨_, rfl, _, k24, big' (by rw [List.length_map]; omega), same_put s14 hL, ?_⟩
        rw [upd_same, hnx, hall, if_pos rfl, List.map_append]
        rfl
      | false =>
        refine ⟨false, by rw [show g.all (id ∘ fun p => decide (p ∈ Kp)) = g.all fun p => decide (p ∈ Kp) from rfl, hall] <;> rfl, ?_⟩
        refine iteF ⟨s14, ?_⟩
        rw [hnx, hall, if_neg Bool.false_ne_true, List.append_nil]
        exact k24
  rintro H2 ⟨s2, k2⟩
  rw [hyl] at k2
  have s12 := s1.trans s2
  refine ⟨_, rfl, _, rfl, xk, F, L, _, rfl, (ArQ.of (hxk.tp (Tp.same s2))), by omega, hFG.inA, .inl (sqd k2), TabG.same hT s12, fun rl rs H3 s3 hrl k3 hR => ?_⟩
  have s03 : Sm Pt H H3 := (Sm.of s12).trans s3
  obtain ⟨hRl2, hR2⟩ := hR
  refine ⟨_, rfl, _, rfl, _, rfl, sa, ra, st, R, rfl, .inr (s03.tup hsa), s03.tup hra, hstl, fun p hp => by rw [hRl]; exact hsm p hp, fun gl gxs H4 s4 hgl k4 hgx => ?_⟩
  have hgl4 := hgx.1
  refine ⟨gl, _, rfl, .inl (sqd k4), _, rfl, rl, _, rfl, sqd (s4 _ _ k3), fun cl hcl => ?_⟩
  have hpre : (prt (rdF R) st).length ≤ F.length := by
    obtain ⟨T', hT'⟩ := I.pre
    rw [hFS, hT', List.length_append]
    omega
  rw [show cutV rs none (some ((gxs.length : Nat) : Int)) = rs.take gxs.length from cut_pre]
  obtain ⟨H5, e5, s5, k5⟩ := newH hcl (.lst (rs.take gxs.length))
  rw [e5]
  refine ⟨cl, rfl, ⟨_, sqd k5⟩, fun D hD => ?_⟩
  refine lc_list (K := K) (a := cl) (xs := rs.take gxs.length) (fun (m : Nat) (H' : Hp) => Same H5 H' ∧ ∃ bs : List Bool, H' D = some (.lst (bs.map V.bl)) ∧ bs.length = m ∧ ∀ k : Nat, k < m → ∀ b, bs[k]? = some b → (b = true ↔ ∀ j, gF true F (insK S Kp S.length) j (k : Int) = false)) ?_ ?_ ?_ ?_
  · exact ⟨same_new hD _, [], upd_same, rfl, fun k hk => absurd hk (Nat.not_lt_zero k)⟩
  · rintro m H' _ ⟨s6, _⟩
    exact sqd (s6 _ _ k5)
  · rintro m x H6 hx6 ⟨s6, bs', k6, hbl, hbs'⟩
    have hml := (List.getElem?_eq_some_iff.mp hx6).1
    rw [List.length_take] at hml
    rw [List.getElem?_take, if_pos (by omega)] at hx6
    obtain ⟨ro, hro, hrs⟩ := hR2 m (by omega)
    rw [hx6] at hrs
    cases hrs
    refine ⟨rfl, yes_if ?_⟩
    have put : ∀ b : Bool, (b = true ↔ ∀ j, gF true F (insK S Kp S.length) j (m : Int) = false) → Same H5 (upd H6 D (.lst (bs'.map V.bl ++ [V.bl b]))) ∧ ∃ bs : List Bool, upd H6 D (.lst (bs'.map V.bl ++ [V.bl b])) D = some (.lst (bs.map V.bl)) ∧ bs.length = m + 1 ∧ ∀ k : Nat, k < m + 1 → ∀ b, bs[k]? = some b → (b = true ↔ ∀ j, gF true F (insK S Kp S.length) j (k : Int) = false) := fun b hb => by
      refine ⟨same_put s6 hD, bs' ++ [b], by rw [upd_same, List.map_append]; rfl, by rw [List.length_append, hbl]; rfl, fun k hk b' hb' => ?_⟩
      by_cases hkm : k < m
      · rw [List.getElem?_append_left (by omega)] at hb'
        exact hbs' k hkm b' hb'
      · have : k = m := by omega
        subst this
        rw [List.getElem?_append_right (by omega), hbl, Nat.sub_self] at hb'
        cases hb'
        exact hb
    have hio : IsRk (gF true F (insK S Kp S.length)) (m : Int) ro := hro
    cases ro with
    | none => exact ⟨_, rfl, rfl, _, k6, big' (by rw [List.length_map]; omega), put true ⟨fun _ => hio, fun _ => rfl⟩⟩
    | some r => exact ⟨_, rfl, rfl, _, k6, big' (by rw [List.length_map]; omega), put false ⟨fun e => (nomatch e), fun h => by
        have := hio.1
        rw [h r] at this
        cases this⟩⟩
  rintro H6 ⟨s6, bs', k6, hbl, hbs'⟩
  have hlen : (rs.take gxs.length).length = (prt (rdF R) st).length := by rw [List.length_take]; omega
  rw [hlen] at hbl hbs'
  refine ⟨D, _, rfl, sqd k6, ?_⟩
  refine q F S _ H6 (((s03.trans (.of s4)).trans (.of s5)).trans (.of s6)) hkn ?_
  rw [List.all_eq_true]
  constructor
  · intro h k hk
    have hb : bs'[k]? = some bs'[k] := List.getElem?_eq_getElem (by omega)
    exact (hbs' k hk _ hb).mp (h _ (List.mem_of_getElem? hb))
  · intro h b hb
    obtain ⟨k, hk⟩ := List.getElem?_of_mem hb
    have hkl := (List.getElem?_eq_some_iff.mp hk).1
    exact (hbs' k (by omega) b hk).mpr (h k (by omega))
end
end NL

set_option maxHeartbeats 4000000
namespace NL
open PySem PySem.Spec PyProof.Rows L2
section
variable {P : Program} {w : World} {K : PySem.W.Frag} {mg : Str → Option Value} {base : Heap}
/-! ### _law_is_truth, _law_known_keep, _law_due -/
def spTruth : Sp := fun vs H Q _ => ∃ a b : Bool, vs = [.bl a, .bl b] ∧ a = b ∧ Q (.bl true) H
theorem ok_law_is_truth (T : Txt K mg) : FnOk P w K mg base CX0 1 T.a_law_is_truth T.d_law_is_truth P_law_is_truth spTruth := by
  refine T.F_law_is_truth.ok sc_law_is_truth (fun vs H Q E h => ?_) (fun cdv A outer s H vs Q E hr h => ?_)
  · obtain ⟨a, b, rfl, _⟩ := h
    rfl
  obtain ⟨a, b, rfl, rfl, q⟩ := h
  refine ⟨_, (pss_one (ps_ret (pe_and (pe_callB (call_isi) (by rfl) T.z_isinstance (by decide +kernel) (pa_cons (pv 0) (pa_cons (pe_bltn (v := .ty "bool") (u := .type "bool") (by rfl) T.z_bool (by decide +kernel) rfl) pa_nil))) (pe_one (pe_cmpR op_eq (pv 0) (pv 1) (nomark _)))))), ?_⟩
  refine ⟨_, rfl, _, _, .type "bool", .type "bool", true, rfl, .ty "bool", .base (.bl _), kit_ty (by decide +kernel), true, rfl, ?_⟩
  exact ⟨_, rfl, _, rfl, by cases a <;> rfl, boolE (decide_eq_true rfl) q⟩
end
end NL

set_option maxHeartbeats 4000000
namespace NL
open PySem PySem.Spec PyProof.Rows L2
/-! ### what is never marked: the greatest set that is kept -/
def Kept (A : Ar) (Kp : List Int) (Z : Int → Prop) : Prop := ∀ q, Z q → 0 ≤ q ∧ q < (A.length : Int) ∧ q ∈ Kp ∧ ∃ os, A[q.toNat]? = some os ∧ ∃ o ∈ os, ∀ s ∈ o, s ≠ -1 ∧ Z s
theorem kept_never {A : Ar} {Kp : List Int} {Z : Int → Prop} (hZ : Kept A Kp Z) : ∀ (j : Nat) (q : Int), Z q → gF true A Kp j q = false
  | 0, q, hq => by
    obtain ⟨h0, _, h2, _⟩ := hZ q hq
    rw [gF_0 h0, if_pos rfl, decide_eq_true h2]
    rfl
  | j + 1, q, hq => by
    obtain ⟨h0, h1, _, os, hos, o, ho, hall⟩ := hZ q hq
    have hs := gF_s (st := true) (Kp := Kp) (k := j) hos
    rw [show ((q.toNat : Nat) : Int) = q by omega, kept_never hZ j q hq, if_pos rfl] at hs
    rw [hs, Bool.false_or]
    unfold frcM
    rw [if_neg (by decide)]
    refine Bool.eq_false_iff.mpr fun h => ?_
    have h2 := List.all_eq_true.mp h o ho
    obtain ⟨s, hs1, hs2⟩ := List.any_eq_true.mp h2
    rw [kept_never hZ j s (hall s hs1).2] at hs2
    cases hs2
theorem all_round {A : Ar} {Kp : List Int} : ∀ os : Pos', (∀ o ∈ os, ∃ j, o.any (gF true A Kp j) = true) → ∃ J, ∀ o ∈ os, o.any (gF true A Kp J) = true
  | [], _ => ⟨0, fun o h => nomatch h⟩
  | a :: r, h => by
    obtain ⟨j, hj⟩ := h a List.mem_cons_self
    obtain ⟨J, hJ⟩ := all_round r fun o ho => h o (List.mem_cons_of_mem _ ho)
    have up : ∀ {i k : Nat} {o : Opt}, i ≤ k → o.any (gF true A Kp i) = true → o.any (gF true A Kp k) = true := fun hik ho => by
      obtain ⟨s, h1, h2⟩ := List.any_eq_true.mp ho
      exact List.any_eq_true.mpr ⟨s, h1, up_le (fun k p e => gF_up k p e) hik h2⟩
    refine ⟨max j J, fun o ho => ?_⟩
    rcases List.mem_cons.mp ho with e | ho
    · rw [e]
      exact up (Nat.le_max_left j J) hj
    · exact up (Nat.le_max_right j J) (hJ o ho)
theorem never_kept {A : Ar} (hin : InA A A.length) (Kp : List Int) : Kept A Kp fun q => 0 ≤ q ∧ q < (A.length : Int) ∧ ∀ j, gF true A Kp j q = false := by
  rintro q ⟨h0, h1, hq⟩
  have hk : q ∈ Kp := by
    have := hq 0
    rw [gF_0 h0, if_pos rfl] at this
    simpa using this
  have hos : A[q.toNat]? = some A[q.toNat] := List.getElem?_eq_getElem (by omega)
  refine ⟨h0, h1, hk, _, hos, Classical.byContradiction fun hno => ?_⟩
  have hall : ∀ o ∈ A[q.toNat], ∃ j, o.any (gF true A Kp j) = true := fun o ho => Classical.byContradiction fun hj => hno ⟨o, ho, fun s hs => ?_⟩
  · obtain ⟨J, hJ⟩ := all_round _ hall
    have hs := gF_s (st := true) (Kp := Kp) (k := J) hos
    rw [show ((q.toNat : Nat) : Int) = q by omega, hq (J + 1), hq J, if_pos rfl, Bool.false_or] at hs
    have : frcM 1 A[q.toNat] (gF true A Kp J) = true := by
      unfold frcM
      rw [if_neg (by decide)]
      exact List.all_eq_true.mpr hJ
    rw [this] at hs
    cases hs
  · have hsr := hin _ (List.mem_of_getElem? hos) o ho s hs
    have hne : s ≠ -1 := fun e => hj ⟨0, List.any_eq_true.mpr ⟨s, hs, by rw [e]; exact gF_out 0⟩⟩
    refine ⟨hne, by omega, hsr.2, fun j => ?_⟩
    cases h : gF true A Kp j s with
    | false => rfl
    | true => exact absurd ⟨j, List.any_eq_true.mpr ⟨s, hs, h⟩⟩ hj
/-! ### sets that are won -/
def WinZ (A : Ar) (rd : Int → Int) (Kp : List Int) (Z : List Int → Prop) : Prop := ∀ g, Z g → KS rd (A.length : Int) g ∧ (∀ p ∈ g, p ∈ Kp) ∧ ∃ i, i < wid A g ∧ (-1 : Int) ∉ aft A g i ∧ ∀ h ∈ fol A rd g i, Z h
def Win (A : Ar) (rd : Int → Int) (Kp : List Int) (g : List Int) : Prop := ∃ Z, WinZ A rd Kp Z ∧ Z g
theorem win_z (A : Ar) (rd : Int → Int) (Kp : List Int) : WinZ A rd Kp (Win A rd Kp) := by
  rintro g ⟨Z, hZ, hg⟩
  obtain ⟨h1, h2, i, h3, h4, h5⟩ := hZ g hg
  exact ⟨h1, h2, i, h3, h4, fun h hh => ⟨Z, hZ, h5 h hh⟩⟩
theorem safe_win {A : Ar} {rd : Int → Int} {st Kp : List Int} {F : Ar} {S : List (List Int)} (hG : ArG A) (hn : A.length ≤ 46) (hs : Asc st) (hm : ∀ p ∈ st, 0 ≤ p ∧ p < (A.length : Int)) (hf : Few rd (A.length : Int)) (hk : IsKn A rd st F S) {k : Nat} {g : List Int} (hg : S[k]? = some g) :
    (∀ j, gF true F (insK S Kp S.length) j (k : Int) = false) ↔ Win A rd Kp g := by
  obtain ⟨I, hl⟩ := hk.inv hG hs hm
  have hFG := kn_good hG hn hs hm hf hk
  constructor
  · intro h
    refine ⟨fun g => ∃ k : Nat, S[k]? = some g ∧ ∀ j, gF true F (insK S Kp S.length) j (k : Int) = false, ?_, k, hg, h⟩
    rintro g ⟨k, hg, h⟩
    have hkl := (List.getElem?_eq_some_iff.mp hg).1
    obtain ⟨_, _, h2, os, hos, o, ho, hall⟩ := never_kept hFG.inA (insK S Kp S.length) (k : Int) ⟨by omega, by omega, h⟩
    rw [Int.toNat_natCast] at hos
    obtain ⟨r1, r2⟩ := I.row k g (by omega) hg
    rw [hos] at r1
    have r1 := Option.some.inj r1
    rw [r1] at ho
    obtain ⟨i, hi, rfl⟩ := List.mem_map.mp ho
    have hi := List.mem_range.mp hi
    obtain ⟨_, _, h3⟩ := insK_mem.mp h2
    rw [Int.toNat_natCast, hg] at h3
    refine ⟨I.ks g (List.mem_of_getElem? hg), h3, i, hi, fun hm1 => ?_, fun x hx => ?_⟩
    · exact (hall (-1) (mem_optK.mpr (.inl ⟨rfl, hm1⟩))).1 rfl
    · have hxS := r2 i hi x hx
      have := (hall ((nr S x : Nat) : Int) (mem_optK.mpr (.inr (List.mem_map.mpr ⟨x, hx, rfl⟩)))).2
      exact ⟨nr S x, nr_get hxS, this.2.2⟩
  · rintro ⟨Z, hZ, hZg⟩ j
    have hkl := (List.getElem?_eq_some_iff.mp hg).1
    refine kept_never (Z := fun q => 0 ≤ q ∧ ∃ g, S[q.toNat]? = some g ∧ Z g) ?_ j (k : Int) ⟨by omega, g, by rw [Int.toNat_natCast]; exact hg, hZg⟩
    rintro q ⟨h0, g, hg, hZg⟩
    have hql := (List.getElem?_eq_some_iff.mp hg).1
    obtain ⟨h1, h2, i, hi, h3, h4⟩ := hZ g hZg
    obtain ⟨r1, r2⟩ := I.row q.toNat g (by omega) hg
    refine ⟨h0, by omega, insK_mem.mpr ⟨h0, by omega, by rw [hg]; exact h2⟩, _, r1, _, List.mem_map.mpr ⟨i, List.mem_range.mpr hi, rfl⟩, fun s hs => ?_⟩
    rcases mem_optK.mp hs with ⟨_, h⟩ | h
    · exact absurd h h3
    · obtain ⟨x, hx, e⟩ := List.mem_map.mp h
      have e : ((nr S x : Nat) : Int) = s := e
      refine ⟨by omega, by omega, x, ?_, h4 x hx⟩
      rw [← e, Int.toNat_natCast]
      exact nr_get (r2 i hi x hx)
/-- what can_know says: all sets that the starts make are won -/
theorem knw_win {A : Ar} {rd : Int → Int} {st Kp : List Int} {F : Ar} {S : List (List Int)} (hG : ArG A) (hn : A.length ≤ 46) (hs : Asc st) (hm : ∀ p ∈ st, 0 ≤ p ∧ p < (A.length : Int)) (hf : Few rd (A.length : Int)) (hk : IsKn A rd st F S) : Knw F S Kp (prt rd st).length ↔ ∀ g ∈ prt rd st, Win A rd Kp g := by
  obtain ⟨I, hl⟩ := hk.inv hG hs hm
  obtain ⟨T, hT⟩ := I.pre
  have hat : ∀ (k : Nat) (g : List Int), (prt rd st)[k]? = some g → S[k]? = some g := fun k g hg => by
    rw [hT, List.getElem?_append_left (List.getElem?_eq_some_iff.mp hg).1]
    exact hg
  constructor
  · intro h g hg
    obtain ⟨k, hk2⟩ := List.getElem?_of_mem hg
    exact (safe_win hG hn hs hm hf hk (hat k g hk2)).mp (h k (List.getElem?_eq_some_iff.mp hk2).1)
  · intro h k hk2
    have hg : (prt rd st)[k]? = some (prt rd st)[k] := List.getElem?_eq_getElem hk2
    exact (safe_win hG hn hs hm hf hk (hat k _ hg)).mpr (h _ (List.mem_of_getElem? hg))
theorem wid_sub {A : Ar} {X Y : List Int} (hX : X ≠ []) (h : ∀ p ∈ X, p ∈ Y) : wid A Y ≤ wid A X := by
  obtain ⟨p, hp, e⟩ := wid_mem (A := A) hX
  rw [e]
  exact wid_le p (h p hp)
theorem aft_sub {A : Ar} {X Y : List Int} {i : Nat} (h : ∀ p ∈ X, p ∈ Y) {s : Int} (hs : s ∈ aft A X i) : s ∈ aft A Y i := by
  obtain ⟨p, hp, hs⟩ := List.mem_flatMap.mp hs
  exact List.mem_flatMap.mpr ⟨p, h p hp, hs⟩
/-- fewer positions and finer readings -/
theorem win_mono {A : Ar} (hG : ArG A) {rd rd' : Int → Int} {Kp : List Int} (hr : ∀ p q, 0 ≤ p → p < (A.length : Int) → 0 ≤ q → q < (A.length : Int) → rd' p = rd' q → rd p = rd q) {X Y : List Int} (hX : KS rd' (A.length : Int) X) (h : ∀ p ∈ X, p ∈ Y) (hY : Win A rd Kp Y) : Win A rd' Kp X := by
  refine ⟨fun X => KS rd' (A.length : Int) X ∧ ∃ Y, Win A rd Kp Y ∧ ∀ p ∈ X, p ∈ Y, ?_, hX, Y, hY, h⟩
  rintro X ⟨hX, Y, hY, h⟩
  obtain ⟨h1, h2, i, hi, h3, h4⟩ := win_z A rd Kp Y hY
  have hiX := Nat.lt_of_lt_of_le hi (wid_sub (A := A) hX.ne h)
  refine ⟨hX, fun p hp => h2 p (h p hp), i, hiX, fun e => h3 (aft_sub h e), fun x hx => ⟨fol_ks hG hX hiX x hx, ?_⟩⟩
  obtain ⟨p, hp, rfl⟩ := mem_prt hx
  have hsub : ∀ q, q ∈ (succs A X i).filter (fun p => !decide (p = -1)) → q ∈ (succs A Y i).filter fun p => !decide (p = -1) := fun q hq => by
    obtain ⟨q1, q2⟩ := List.mem_filter.mp hq
    exact List.mem_filter.mpr ⟨mem_srt.mpr (aft_sub h (mem_srt.mp q1)), q2⟩
  have hrg : ∀ q, q ∈ (succs A X i).filter (fun p => !decide (p = -1)) → 0 ≤ q ∧ q < (A.length : Int) := fun q hq => by
    obtain ⟨q1, q2⟩ := List.mem_filter.mp hq
    have := succs_mem hG hX.mem (fun p hp => Nat.lt_of_lt_of_le hiX (wid_le p hp)) q q1
    have q3 : q ≠ -1 := by simpa using q2
    omega
  refine ⟨_, h4 _ (prt_of (hsub p hp)), fun q hq => ?_⟩
  obtain ⟨q1, q2⟩ := List.mem_filter.mp hq
  have r1 := hrg q q1
  have r2 := hrg p hp
  exact List.mem_filter.mpr ⟨hsub q q1, decide_eq_true (hr q p r1.1 r1.2 r2.1 r2.2 (of_decide_eq_true q2))⟩
/-- readings that are all unlike -/
def Inj (rd : Int → Int) (n : Int) : Prop := ∀ p q, 0 ≤ p → p < n → 0 ≤ q → q < n → rd p = rd q → p = q
theorem ks_one {rd : Int → Int} {n : Int} (hi : Inj rd n) {g : List Int} (h : KS rd n g) : ∃ p, g = [p] ∧ 0 ≤ p ∧ p < n := by
  match g, h with
  | [], h => exact absurd rfl h.ne
  | [p], h => exact ⟨p, rfl, h.mem p List.mem_cons_self⟩
  | p :: q :: r, h =>
    have hp := h.mem p List.mem_cons_self
    have hq := h.mem q (List.mem_cons_of_mem _ List.mem_cons_self)
    have e := hi p q hp.1 hp.2 hq.1 hq.2 (h.one p List.mem_cons_self q (List.mem_cons_of_mem _ List.mem_cons_self))
    have := (List.pairwise_cons.mp h.asc).1 q List.mem_cons_self
    omega
theorem ks_single {rd : Int → Int} {n p : Int} (h0 : 0 ≤ p) (h1 : p < n) : KS rd n [p] := ⟨by simp, List.pairwise_singleton _ _, fun x hx => by rw [List.mem_singleton.mp hx]; exact ⟨h0, h1⟩, fun x hx y hy => by rw [List.mem_singleton.mp hx, List.mem_singleton.mp hy]⟩
theorem win_one {A : Ar} (hG : ArG A) {rd : Int → Int} {Kp : List Int} (hi : Inj rd (A.length : Int)) {p : Int} (h0 : 0 ≤ p) (h1 : p < (A.length : Int)) : Win A rd Kp [p] ↔ ∀ j, gF true A Kp j p = false := by
  have haft : ∀ (q : Int) (i : Nat), aft A [q] i = optOf A q i := fun q i => by
    unfold aft
    rw [List.flatMap_cons, List.flatMap_nil, List.append_nil]
  constructor
  · rintro ⟨Z, hZ, hp⟩ j
    refine kept_never (Z := fun q => Z [q]) ?_ j p hp
    intro q hq
    obtain ⟨h2, h3, i, hiw, h4, h5⟩ := hZ [q] hq
    have hqm := h2.mem q List.mem_cons_self
    obtain ⟨os, o, hos, ho, e, _, hO, hom, _⟩ := optOf_g hG hqm.1 hqm.2 (show i < lenOf A q from hiw)
    rw [haft, e] at h4
    refine ⟨hqm.1, hqm.2, h3 q List.mem_cons_self, os, hos, o, hom, fun s hs => ?_⟩
    have hne : s ≠ -1 := fun e => h4 (e ▸ hs)
    refine ⟨hne, ?_⟩
    have hsf : s ∈ (succs A [q] i).filter fun p => !decide (p = -1) := List.mem_filter.mpr ⟨mem_srt.mpr (by rw [haft, e]; exact hs), by simp [hne]⟩
    have hf := h5 _ (prt_of hsf)
    obtain ⟨s', e', _⟩ := ks_one hi (fol_ks hG h2 hiw _ (prt_of hsf))
    have hsin : s ∈ ((succs A [q] i).filter fun p => !decide (p = -1)).filter fun x => decide (rd x = rd s) := List.mem_filter.mpr ⟨hsf, decide_eq_true rfl⟩
    rw [e'] at hsin hf
    rw [List.mem_singleton.mp hsin]
    exact hf
  · intro h
    refine ⟨fun g => ∃ q, g = [q] ∧ 0 ≤ q ∧ q < (A.length : Int) ∧ ∀ j, gF true A Kp j q = false, ?_, p, rfl, h0, h1, h⟩
    rintro g ⟨q, rfl, q0, q1, hq⟩
    obtain ⟨_, _, hk, os, hos, o, ho, hall⟩ := never_kept hG.inA Kp q ⟨q0, q1, hq⟩
    obtain ⟨i, hi2⟩ := List.getElem?_of_mem ho
    have hil := (List.getElem?_eq_some_iff.mp hi2).1
    have e := optOf_at hos hi2
    have hw : i < wid A [q] := by
      show i < lenOf A q
      rw [lenOf_at hos]
      exact hil
    refine ⟨ks_single q0 q1, fun x hx => by rw [List.mem_singleton.mp hx]; exact hk, i, hw, fun hm => ?_, fun x hx => ?_⟩
    · rw [haft, e] at hm
      exact (hall _ hm).1 rfl
    · obtain ⟨s, e2, s0, s1⟩ := ks_one hi (fol_ks hG (ks_single q0 q1) hw x hx)
      obtain ⟨p', hp', e3⟩ := mem_prt hx
      have hsx : s ∈ x := by rw [e2]; exact List.mem_cons_self
      rw [e3] at hsx
      have := (List.mem_filter.mp (List.mem_filter.mp hsx).1).1
      have hso : s ∈ o := by
        have := mem_srt.mp this
        rw [haft, e] at this
        exact this
      exact ⟨s, e2, (hall s hso).2⟩
/-- a start stands in one of the sets -/
theorem prt_has {rd : Int → Int} {st : List Int} {p : Int} (h : p ∈ st) : ∃ g ∈ prt rd st, p ∈ g := ⟨_, prt_of h, List.mem_filter.mpr ⟨h, decide_eq_true rfl⟩⟩
end NL

set_option maxHeartbeats 4000000
namespace NL
open PySem PySem.Spec PyProof.Rows L2
/-! ### sets of positions as masks -/
def wgt (p : Int) : Int := ([1, 2, 4, 8, 16] : List Int).getD p.toNat 0
def maskS (l : List Int) : Int := (l.map wgt).sum
def bitM (m k : Int) : Bool := decide (m / wgt k % 2 = 1)
def setM (n : Nat) (m : Int) : List Int := ((List.range n).map fun k : Nat => (0 : Int) + (k : Int)).filter (bitM m)
def b5 (b0 b1 b2 b3 b4 : Bool) : List Int := (if b0 then [0] else []) ++ ((if b1 then [1] else []) ++ ((if b2 then [2] else []) ++ ((if b3 then [3] else []) ++ (if b4 then [4] else []))))
def top5 (n : Nat) : Int := ([1, 2, 4, 8, 16, 32] : List Int).getD n 0
theorem asc_b5 {l : List Int} (h : Asc l) (hm : ∀ x ∈ l, 0 ≤ x ∧ x < 5) : ∃ b0 b1 b2 b3 b4, l = b5 b0 b1 b2 b3 b4 := by
  refine ⟨decide (0 ∈ l), decide (1 ∈ l), decide (2 ∈ l), decide (3 ∈ l), decide (4 ∈ l), ?_⟩
  have hb : ∀ b0 b1 b2 b3 b4 : Bool, Asc (b5 b0 b1 b2 b3 b4) := by decide
  refine asc_ext h (hb _ _ _ _ _) fun x => ?_
  constructor
  · intro hx
    have := hm x hx
    have hx5 : x = 0 ∨ x = 1 ∨ x = 2 ∨ x = 3 ∨ x = 4 := by omega
    unfold b5
    rcases hx5 with e | e | e | e | e <;> subst e <;> simp [hx]
  · intro hx
    unfold b5 at hx
    simp only [List.mem_append, List.mem_ite_nil_right, List.mem_singleton, decide_eq_true_eq] at hx
    rcases hx with ⟨h, e⟩ | ⟨h, e⟩ | ⟨h, e⟩ | ⟨h, e⟩ | ⟨h, e⟩ <;> subst e <;> exact h
theorem bit_mask {l : List Int} (h : Asc l) (hm : ∀ x ∈ l, 0 ≤ x ∧ x < 5) {k : Int} (k0 : 0 ≤ k) (k5 : k < 5) : bitM (maskS l) k = true ↔ k ∈ l := by
  obtain ⟨b0, b1, b2, b3, b4, e⟩ := asc_b5 h hm
  rw [e]
  have hk : k = 0 ∨ k = 1 ∨ k = 2 ∨ k = 3 ∨ k = 4 := by omega
  have all : ∀ b0 b1 b2 b3 b4 : Bool, (bitM (maskS (b5 b0 b1 b2 b3 b4)) 0 = true ↔ (0 : Int) ∈ b5 b0 b1 b2 b3 b4) ∧ (bitM (maskS (b5 b0 b1 b2 b3 b4)) 1 = true ↔ (1 : Int) ∈ b5 b0 b1 b2 b3 b4) ∧ (bitM (maskS (b5 b0 b1 b2 b3 b4)) 2 = true ↔ (2 : Int) ∈ b5 b0 b1 b2 b3 b4) ∧ (bitM (maskS (b5 b0 b1 b2 b3 b4)) 3 = true ↔ (3 : Int) ∈ b5 b0 b1 b2 b3 b4) ∧ (bitM (maskS (b5 b0 b1 b2 b3 b4)) 4 = true ↔ (4 : Int) ∈ b5 b0 b1 b2 b3 b4) := by decide
  obtain ⟨a0, a1, a2, a3, a4⟩ := all b0 b1 b2 b3 b4
  rcases hk with e | e | e | e | e <;> subst e
  · exact a0
  · exact a1
  · exact a2
  · exact a3
  · exact a4
theorem asc_rng (n : Nat) : Asc ((List.range n).map fun k : Nat => (0 : Int) + (k : Int)) := (KpG.range n).asc
theorem mem_rng {n : Nat} {x : Int} : x ∈ ((List.range n).map fun k : Nat => (0 : Int) + (k : Int)) ↔ 0 ≤ x ∧ x < (n : Int) := by
  constructor
  · intro h
    obtain ⟨k, hk, e⟩ := List.mem_map.mp h
    have := List.mem_range.mp hk
    omega
  · rintro ⟨h0, h1⟩
    exact List.mem_map.mpr ⟨x.toNat, List.mem_range.mpr (by omega), by omega⟩
theorem asc_setM (n : Nat) (m : Int) : Asc (setM n m) := asc_filter _ (asc_rng n)
theorem mem_setM {n : Nat} {m x : Int} (h : x ∈ setM n m) : 0 ≤ x ∧ x < (n : Int) := mem_rng.mp (List.mem_filter.mp h).1
theorem set_mask {n : Nat} (hn : n ≤ 5) {l : List Int} (h : Asc l) (hm : ∀ x ∈ l, 0 ≤ x ∧ x < (n : Int)) : setM n (maskS l) = l := by
  refine asc_ext (asc_setM n _) h fun x => ?_
  have h5 : ∀ x ∈ l, 0 ≤ x ∧ x < 5 := fun x hx => by have := hm x hx; omega
  constructor
  · intro hx
    obtain ⟨h1, h2⟩ := List.mem_filter.mp hx
    have h1 := mem_rng.mp h1
    exact (bit_mask h h5 h1.1 (by omega)).mp h2
  · intro hx
    have := h5 x hx
    exact List.mem_filter.mpr ⟨mem_rng.mpr (hm x hx), (bit_mask h h5 this.1 this.2).mpr hx⟩
theorem mask_pos {l : List Int} (h : Asc l) (hm : ∀ x ∈ l, 0 ≤ x ∧ x < 5) : 0 ≤ maskS l ∧ maskS l < 32 ∧ (0 < maskS l ↔ l ≠ []) := by
  obtain ⟨b0, b1, b2, b3, b4, e⟩ := asc_b5 h hm
  rw [e]
  have all : ∀ b0 b1 b2 b3 b4 : Bool, 0 ≤ maskS (b5 b0 b1 b2 b3 b4) ∧ maskS (b5 b0 b1 b2 b3 b4) < 32 ∧ (0 < maskS (b5 b0 b1 b2 b3 b4) ↔ b5 b0 b1 b2 b3 b4 ≠ []) := by decide
  exact all _ _ _ _ _
theorem mask_top : ∀ {n : Nat} {l : List Int}, n ≤ 5 → Asc l → (∀ x ∈ l, 0 ≤ x ∧ x < (n : Int)) → maskS l < top5 n := fun {n l} hn h hm => by
  obtain ⟨b0, b1, b2, b3, b4, e⟩ := asc_b5 h fun x hx => by have := hm x hx; omega
  have hn5 : n = 0 ∨ n = 1 ∨ n = 2 ∨ n = 3 ∨ n = 4 ∨ n = 5 := by omega
  subst e
  have all : ∀ b0 b1 b2 b3 b4 : Bool, ((∀ x ∈ b5 b0 b1 b2 b3 b4, x < 0) → maskS (b5 b0 b1 b2 b3 b4) < 1) ∧ ((∀ x ∈ b5 b0 b1 b2 b3 b4, x < 1) → maskS (b5 b0 b1 b2 b3 b4) < 2) ∧ ((∀ x ∈ b5 b0 b1 b2 b3 b4, x < 2) → maskS (b5 b0 b1 b2 b3 b4) < 4) ∧ ((∀ x ∈ b5 b0 b1 b2 b3 b4, x < 3) → maskS (b5 b0 b1 b2 b3 b4) < 8) ∧ ((∀ x ∈ b5 b0 b1 b2 b3 b4, x < 4) → maskS (b5 b0 b1 b2 b3 b4) < 16) ∧ maskS (b5 b0 b1 b2 b3 b4) < 32 := by decide
  obtain ⟨a0, a1, a2, a3, a4, a5⟩ := all b0 b1 b2 b3 b4
  rcases hn5 with e | e | e | e | e | e <;> subst e
  · exact a0 fun x hx => (hm x hx).2
  · exact a1 fun x hx => (hm x hx).2
  · exact a2 fun x hx => (hm x hx).2
  · exact a3 fun x hx => (hm x hx).2
  · exact a4 fun x hx => (hm x hx).2
  · exact a5
theorem setM_ne {n : Nat} (hn : n ≤ 5) {m : Int} (h0 : 1 ≤ m) (h1 : m < top5 n) : setM n m ≠ [] := by
  have all : ∀ n : Fin 6, ∀ m : Fin 32, 1 ≤ ((m : Nat) : Int) → ((m : Nat) : Int) < top5 n → setM n ((m : Nat) : Int) ≠ [] := by decide +kernel
  have h32 : top5 n ≤ 32 := by
    have hn5 : n = 0 ∨ n = 1 ∨ n = 2 ∨ n = 3 ∨ n = 4 ∨ n = 5 := by omega
    rcases hn5 with e | e | e | e | e | e <;> subst e <;> decide
  have := all ⟨n, by omega⟩ ⟨m.toNat, by omega⟩
  rw [show (((⟨m.toNat, by omega⟩ : Fin 32) : Nat) : Int) = m by show ((m.toNat : Nat) : Int) = m; omega] at this
  exact this h0 h1
/-! ### a mask that stays -/
def partM (A : Ar) (rd : Int → Int) (X : List Int) (i : Nat) (r : Int) : List Int := (srt (aft A X i)).filter fun p => decide (0 ≤ p) && decide (rd p = r)
def isLeft (A : Ar) (rd : Int → Int) (L : List Int) (m : Int) : Prop := ∃ i, i < wid A (setM A.length m) ∧ (-1 : Int) ∉ aft A (setM A.length m) i ∧ ∀ r, 0 ≤ r → r ≤ 2 → 0 < maskS (partM A rd (setM A.length m) i r) → maskS (partM A rd (setM A.length m) i r) ∈ L
/-- the readings are among 0, 1 and 2 -/
def R3 (rd : Int → Int) (n : Int) : Prop := ∀ p, 0 ≤ p → p < n → 0 ≤ rd p ∧ rd p ≤ 2
theorem fol_part {A : Ar} {rd : Int → Int} (hG : ArG A) (h3 : R3 rd (A.length : Int)) {X : List Int} {i : Nat} (hX : ∀ p ∈ X, 0 ≤ p ∧ p < (A.length : Int)) (hi : ∀ p ∈ X, i < lenOf A p) (hno : (-1 : Int) ∉ aft A X i) (h : List Int) :
    h ∈ fol A rd X i ↔ ∃ r, 0 ≤ r ∧ r ≤ 2 ∧ h = partM A rd X i r ∧ h ≠ [] := by
  have hs := succs_mem hG hX hi
  have e1 : (succs A X i).filter (fun p => !decide (p = -1)) = succs A X i := by
    refine List.filter_eq_self.mpr fun p hp => ?_
    have : p ≠ -1 := fun e => hno (by rw [← e]; exact mem_srt.mp hp)
    simpa using this
  have e2 : ∀ r, (succs A X i).filter (fun p => decide (rd p = r)) = partM A rd X i r := fun r => by
    refine List.filter_congr fun p hp => ?_
    have h1 := hs p hp
    have : p ≠ -1 := fun e => hno (by rw [← e]; exact mem_srt.mp hp)
    rw [decide_eq_true (show (0 : Int) ≤ p by omega), Bool.true_and]
  unfold fol
  rw [e1]
  constructor
  · intro hh
    obtain ⟨p, hp, e⟩ := mem_prt hh
    have h1 := hs p hp
    have : p ≠ -1 := fun e => hno (by rw [← e]; exact mem_srt.mp hp)
    have hr := h3 p (by omega) h1.2
    refine ⟨rd p, hr.1, hr.2, by rw [e, e2], fun h0 => ?_⟩
    rw [e] at h0
    have : p ∈ (succs A X i).filter (fun q => decide (rd q = rd p)) := List.mem_filter.mpr ⟨hp, decide_eq_true rfl⟩
    rw [h0] at this
    cases this
  · rintro ⟨r, r0, r2, e, hne⟩
    obtain ⟨p, hp⟩ := List.exists_mem_of_ne_nil _ hne
    rw [e, ← e2] at hp
    obtain ⟨hp1, hp2⟩ := List.mem_filter.mp hp
    have hr := of_decide_eq_true hp2
    rw [e, ← e2, ← hr]
    exact prt_of hp1
theorem part_asc {A : Ar} {rd : Int → Int} {X : List Int} {i : Nat} {r : Int} : Asc (partM A rd X i r) := asc_filter _ asc_srt
theorem part_mem {A : Ar} {rd : Int → Int} (hG : ArG A) {X : List Int} {i : Nat} {r : Int} (hX : ∀ p ∈ X, 0 ≤ p ∧ p < (A.length : Int)) (hi : ∀ p ∈ X, i < lenOf A p) : ∀ x ∈ partM A rd X i r, 0 ≤ x ∧ x < (A.length : Int) := fun x hx => by
  obtain ⟨h1, h2⟩ := List.mem_filter.mp hx
  have := succs_mem hG hX hi x h1
  rw [Bool.and_eq_true] at h2
  exact ⟨of_decide_eq_true h2.1, this.2⟩
/-- every winning set's mask is left -/
theorem win_left {A : Ar} {rd : Int → Int} {Kp L : List Int} (hG : ArG A) (h5 : A.length ≤ 5) (h3 : R3 rd (A.length : Int)) (hL : ∀ g, Win A rd Kp g → maskS g ∈ L) : ∀ g, Win A rd Kp g → isLeft A rd L (maskS g) := fun g hg => by
  obtain ⟨hks, hkp, i, hi, hno, hall⟩ := win_z A rd Kp g hg
  have hX := hks.mem
  have hiw : ∀ p ∈ g, i < lenOf A p := fun p hp => Nat.lt_of_lt_of_le hi (wid_le p hp)
  unfold isLeft
  rw [set_mask h5 hks.asc hX]
  refine ⟨i, hi, hno, fun r r0 r2 hp => hL _ (hall _ ((fol_part hG h3 hX hiw hno _).mpr ⟨r, r0, r2, rfl, ?_⟩))⟩
  exact ((mask_pos part_asc fun x hx => by have := part_mem hG hX hiw x hx; omega).2.2).mp hp
/-- what is left in the end is won -/
theorem left_win {A : Ar} {rd : Int → Int} {Kp L : List Int} (hG : ArG A) (h5 : A.length ≤ 5) (h3 : R3 rd (A.length : Int)) (hk : ∀ m ∈ L, ∀ p ∈ setM A.length m, p ∈ Kp) (hL : ∀ m ∈ L, isLeft A rd L m) {g : List Int} (hg : KS rd (A.length : Int) g) (hm : maskS g ∈ L) : Win A rd Kp g := by
  refine ⟨fun g => KS rd (A.length : Int) g ∧ maskS g ∈ L, ?_, hg, hm⟩
  rintro g ⟨hks, hm⟩
  have hX := hks.mem
  have hsm := set_mask h5 hks.asc hX
  have hkp := hk _ hm
  rw [hsm] at hkp
  obtain ⟨i, hi, hno, hall⟩ := hL _ hm
  rw [hsm] at hi hno hall
  have hiw : ∀ p ∈ g, i < lenOf A p := fun p hp => Nat.lt_of_lt_of_le hi (wid_le p hp)
  refine ⟨hks, hkp, i, hi, hno, fun h hh => ⟨fol_ks hG hks hi h hh, ?_⟩⟩
  obtain ⟨r, r0, r2, e, hne⟩ := (fol_part hG h3 hX hiw hno h).mp hh
  rw [e] at hne ⊢
  exact hall r r0 r2 (((mask_pos part_asc fun x hx => by have := part_mem hG hX hiw x hx; omega).2.2).mpr hne)
end NL

set_option maxHeartbeats 4000000
namespace NL
open PySem PySem.Spec PyProof.Rows L2
theorem wgt_at {k : Int} (k0 : 0 ≤ k) (k5 : k < 5) : atI (([1, 2, 4, 8, 16] : List Int).map V.int) k = some (.int (wgt k)) ∧ 0 < wgt k ∧ wgt k ≤ 16 := by
  have hk : k = 0 ∨ k = 1 ∨ k = 2 ∨ k = 3 ∨ k = 4 := by omega
  rcases hk with e | e | e | e | e <;> subst e
  · exact ⟨atI_nat (j := 0) rfl, by decide, by decide⟩
  · exact ⟨atI_nat (j := 1) rfl, by decide, by decide⟩
  · exact ⟨atI_nat (j := 2) rfl, by decide, by decide⟩
  · exact ⟨atI_nat (j := 3) rfl, by decide, by decide⟩
  · exact ⟨atI_nat (j := 4) rfl, by decide, by decide⟩
section
variable {P : Program} {w : World} {K : PySem.W.Frag} {mg : Str → Option Value} {base : Heap}
/-! ### _law_set, _law_mask -/
def spLSet : Sp := fun vs H Q _ => ∃ (av : V) (A : Ar) (m : Int), vs = [av, .int m] ∧ ArIn H A av ∧ A.length ≤ 5 ∧ 0 ≤ m ∧ m < 64 ∧ ∀ D H', Same H H' → H' D = some (.lst ((setM A.length m).map V.int)) → Q (.ref D) H'
theorem ok_law_set (T : Txt K mg) : FnOk P w K mg base CX0 1 T.a_law_set T.d_law_set P_law_set spLSet := by
  refine T.F_law_set.ok sc_law_set (fun vs H Q E h => ?_) (fun cdv A outer s H vs Q E hr h => ?_)
  · obtain ⟨av, A, m, rfl, _⟩ := h
    rfl
  obtain ⟨av, A0, m, rfl, ⟨b0, xs, rfl, e0, hxs⟩, h5, m0, m64, q⟩ := h
  have hxl := hxs.1
  refine ⟨_, (pss_one (ps_ret (pe_lc (own := [("k", 2)]) (g := (gName 2)) (tt := _) rfl sc_law_set.nd (pi_range1 (by rfl) T.z_range (pa_cons (pe_callB call_len_seq (by rfl) T.z_len PySem.boot_len (pa_cons (pv 0) pa_nil)) pa_nil)) (blkOk_by (N := N_law_set) (sc := defScope s_law_set) (by decide +kernel)) (fun _ _ _ _ _ => (pg_name (i := 2) sc_law_set.nd rfl (Or.inl rfl))) (fun _ _ _ _ _ => (pts_one (pt_cmpR op_eq (pe_op op_mod (pe_callTy call_int1 (by rfl) T.z_int (by decide +kernel) (pa_cons (pe_op op_fdiv (pv 1) (pe_ix (ix_listK (K := K) rfl) (pe_lst (pa_cons pe_int (pa_cons pe_int (pa_cons pe_int (pa_cons pe_int (pa_cons pe_int pa_nil)))))) (pv 2) (fun _ _ => rfl))) pa_nil)) pe_int) pe_int (nomark _)))) (fun _ _ _ _ _ => (pv 2))))), ?_⟩
  refine ⟨_, rfl, b0, _, rfl, .inr (sqt e0), _, rfl, by omega, by omega, fun D hD => ?_⟩
  refine lc_range (lo := 0) (n := ((xs.length : Nat) : Int).toNat) (fun (i : Nat) (H' : Hp) => Same H H' ∧ H' D = some (.lst ((((List.range i).map fun k : Nat => (0 : Int) + (k : Int)).filter (bitM m)).map V.int))) ?_ ?_ ?_
  · exact ⟨same_new hD _, upd_same⟩
  · rintro i H5 hi ⟨s5, k5⟩
    have hi5 : i < 5 := by omega
    obtain ⟨hw, w0, w16⟩ := wgt_at (k := 0 + (i : Int)) (by omega) (by omega)
    have hnx : ((List.range (i + 1)).map fun k : Nat => (0 : Int) + (k : Int)).filter (bitM m) = ((List.range i).map fun k : Nat => (0 : Int) + (k : Int)).filter (bitM m) ++ if bitM m (0 + (i : Int)) = true then [0 + (i : Int)] else [] := by
      rw [List.range_succ, List.map_append, List.filter_append]
      congr 1
      simp only [List.map_cons, List.map_nil, List.filter_cons, List.filter_nil]
    have hlen : (((List.range i).map fun k : Nat => (0 : Int) + (k : Int)).filter (bitM m)).length ≤ 5 := by
      have := List.length_filter_le (bitM m) ((List.range i).map fun k : Nat => (0 : Int) + (k : Int))
      rw [List.length_map, List.length_range] at this
      omega
    refine ⟨rfl, ?_⟩
    refine ⟨_, rfl, Nat.le_of_ble_eq_true rfl, fun ml hml => ?_⟩
    obtain ⟨H6, e6, s6, k6⟩ := newH hml (.lst (([1, 2, 4, 8, 16] : List Int).map V.int))
    rw [show upd H5 ml (.lst [V.int 1, V.int 2, V.int 4, V.int 8, V.int 16]) = H6 from e6]
    have s56 := s5.trans s6
    refine ⟨_, rfl, ml, _, _, _, rfl, rfl, sqd k6, hw, _, _, rfl, rfl, ⟨w0, by omega⟩, .inl ⟨_, rfl, ?_⟩⟩
    refine ⟨_, _, rfl, rfl, (by decide : (0 : Int) < 2), rfl, _, rfl, ?_⟩
    by_cases h : bitM m (0 + (i : Int)) = true
    · refine ifT (decide_eq_true (congrArg V.int (of_decide_eq_true h))) ?_
      refine ⟨_, rfl, _, s6 _ _ k5, big' (by rw [List.length_map]; omega), same_put s56 hD, ?_⟩
      rw [upd_same, hnx, if_pos h, List.map_append]
      rfl
    · refine ifF (decide_eq_false (fun e => h (decide_eq_true (V.int.inj e)))) ⟨s56, ?_⟩
      rw [hnx, if_neg h, List.append_nil]
      exact s6 _ _ k5
  rintro H5 ⟨s5, k5⟩
  rw [show ((xs.length : Nat) : Int).toNat = A0.length by omega] at k5
  exact q D H5 s5 k5
def spLMask : Sp := fun vs H Q _ => ∃ (pl : Addr) (ps : List Int), vs = [.ref pl] ∧ H pl = some (.lst (ps.map V.int)) ∧ ps.length ≤ 60 ∧ (∀ p ∈ ps, 0 ≤ p ∧ p < 5) ∧ ∀ H', Same H H' → Q (.int (maskS ps)) H'
theorem ok_law_mask (T : Txt K mg) : FnOk P w K mg base CX0 1 T.a_law_mask T.d_law_mask P_law_mask spLMask := by
  refine T.F_law_mask.ok sc_law_mask (fun vs H Q E h => ?_) (fun cdv A outer s H vs Q E hr h => ?_)
  · obtain ⟨pl, ps, rfl, _⟩ := h
    rfl
  obtain ⟨pl, ps, rfl, e0, hpl, hps, q⟩ := h
  refine ⟨_, (pss_one (ps_ret (pe_callB (cr_sum rfl) (by rfl) T.z_sum (by decide +kernel) (pa_cons (pe_lc (own := [("at", 1)]) (g := (gName 1)) (tt := tYes) rfl sc_law_mask.nd (pi_list (pv 0)) (blkOk_by (N := N_law_mask) (sc := defScope s_law_mask) (by decide +kernel)) (fun _ _ _ _ _ => (pg_name (i := 1) sc_law_mask.nd rfl (Or.inl rfl))) (fun _ _ _ _ _ => pts_nil) (fun _ _ _ _ _ => (pe_ix (ix_listK (K := K) rfl) (pe_lst (pa_cons pe_int (pa_cons pe_int (pa_cons pe_int (pa_cons pe_int (pa_cons pe_int pa_nil)))))) (pv 1) (fun _ _ => rfl)))) pa_nil)))), ?_⟩
  refine ⟨_, rfl, pl, rfl, ⟨_, sqd e0⟩, fun D hD => ?_⟩
  refine lc_list (xs := ps.map V.int) (fun (t : Nat) (H' : Hp) => Same H H' ∧ H' D = some (.lst (((ps.take t).map wgt).map V.int))) ?_ ?_ ?_ ?_
  · exact ⟨same_new hD _, upd_same⟩
  · rintro i H5 hi ⟨s5, k5⟩
    exact sqd (s5 _ _ e0)
  · rintro t x H5 hx ⟨s5, k5⟩
    rw [List.getElem?_map] at hx
    obtain ⟨p, hp, rfl⟩ := Option.map_eq_some_iff.mp hx
    obtain ⟨p0, p5⟩ := hps p (List.mem_of_getElem? hp)
    have htl := (List.getElem?_eq_some_iff.mp hp).1
    obtain ⟨hw, w0, w16⟩ := wgt_at p0 p5
    refine ⟨rfl, yes_if ?_⟩
    refine ⟨Nat.le_of_ble_eq_true rfl, fun ml hml => ?_⟩
    obtain ⟨H6, e6, s6, k6⟩ := newH hml (.lst (([1, 2, 4, 8, 16] : List Int).map V.int))
    rw [show upd H5 ml (.lst [V.int 1, V.int 2, V.int 4, V.int 8, V.int 16]) = H6 from e6]
    refine ⟨_, rfl, ml, _, _, _, rfl, rfl, sqd k6, hw, _, s6 _ _ k5, big' (by rw [List.length_map, List.length_map, List.length_take]; omega), same_put (s5.trans s6) hD, ?_⟩
    rw [upd_same, List.take_add_one, hp, List.map_append, List.map_append]
    rfl
  · rintro H5 ⟨s5, k5⟩
    rw [List.length_map, List.take_length] at k5
    exact ⟨D, _, rfl, sqd k5, q H5 s5⟩
end
end NL

set_option maxHeartbeats 8000000
namespace NL
open PySem PySem.Spec PyProof.Rows L2
/-- an option of a mask that leads only to masks that are left -/
def goodM (A : Ar) (rd : Int → Int) (L X : List Int) (i : Nat) : Prop := (-1 : Int) ∉ aft A X i ∧ ∀ r, 0 ≤ r → r ≤ 2 → 0 < maskS (partM A rd X i r) → maskS (partM A rd X i r) ∈ L
section
variable {P : Program} {w : World} {K : PySem.W.Frag} {mg : Str → Option Value} {base : Heap}
/-! ### _law_is_left -/
def spLLeft : Sp := fun vs H Q _ => ∃ (av : V) (ra la : Addr) (A : Ar) (R L : List Int) (m : Int), vs = [av, .ref ra, .ref la, .int m] ∧ ArIn H A av ∧ ArG A ∧ A.length ≤ 5 ∧ H ra = some (.tup (R.map V.int)) ∧ R.length = A.length ∧ H la = some (.lst (L.map V.int)) ∧ 0 ≤ m ∧ m < 64 ∧ setM A.length m ≠ [] ∧
  ∀ (b : Bool) H', Same H H' → (b = true ↔ isLeft A (rdF R) L m) → Q (.bl b) H'
theorem ok_law_is_left (T : Txt K mg) : FnOk P w K mg base CX0 2 T.a_law_is_left T.d_law_is_left P_law_is_left spLLeft := by
  have G_law_set := ok_law_set (P := P) (w := w) (base := base) T
  have G_law_mask := ok_law_mask (P := P) (w := w) (base := base) T
  refine T.F_law_is_left.ok sc_law_is_left (fun vs H Q E h => ?_) (fun cdv A outer s H vs Q E hr h => ?_)
  · obtain ⟨av, ra, la, A, R, L, m, rfl, _⟩ := h
    rfl
  obtain ⟨av, ra, la, A0, R, L, m, rfl, hA, hG, h5, hra, hRl, hla, m0, m64, hne, q⟩ := h
  obtain ⟨b0, xs, rfl, e0, hzs0⟩ := id hA
  have hxl := hzs0.1
  refine ⟨_, (pss_cons (ps_set (i := 4) sc_law_is_left.nd rfl (Or.inl rfl) (pe_call G_law_set (hr.mono (by omega)) (by rfl) T.m_law_set T.F_law_set.kp T.b_law_set .nil pass0 (pa_cons (pv 0) (pa_cons (pv 3) pa_nil))))
    (pss_cons (ps_for  PassesOwn.never rfl (pi_range1 (by rfl) T.z_range (pa_cons (pe_callB (cr_min rfl) (by rfl) T.z_min (by decide +kernel) (pa_cons (pe_lc (own := [("at", 6)]) (g := (gName 6)) (tt := tYes) rfl sc_law_is_left.nd (pi_list (pv 4)) (blkOk_by (N := N_law_is_left) (sc := defScope s_law_is_left) (by decide +kernel)) (fun _ _ _ _ _ => (pg_name (i := 6) sc_law_is_left.nd rfl (Or.inl rfl))) (fun _ _ _ _ _ => pts_nil) (fun _ _ _ _ _ => (pe_callB (call_len_seqK (K := K) rfl) (by rfl) T.z_len PySem.boot_len (pa_cons (pe_ix (ix_tupK (K := K) rfl) (pv 0) (pv 6) (fun _ _ => rfl)) pa_nil)))) pa_nil)) pa_nil)) (pg_name (i := 5) sc_law_is_left.nd rfl (Or.inl rfl))
    (pss_cons (ps_set (i := 7) sc_law_is_left.nd rfl (Or.inl rfl) (pe_lst pa_nil))
    (pss_cons (ps_for  PassesOwn.never rfl (pi_list (pv 4)) (pg_name (i := 6) sc_law_is_left.nd rfl (Or.inl rfl))
    (pss_one (ps_set (i := 7) sc_law_is_left.nd rfl (Or.inl rfl) (pe_op op_cat (pv 7) (pe_callTy call_list_of (by rfl) T.z_list (by decide +kernel) (pa_cons (pe_ix ix_tup (pe_ix ix_tup (pv 0) (pv 6) (fun _ _ => rfl)) (pv 5) (fun _ _ => rfl)) pa_nil))))))
    (pss_cons (ps_set (i := 8) sc_law_is_left.nd rfl (Or.inl rfl) (pe_lst pa_nil))
    (pss_cons (ps_for  PassesOwn.never rfl (pi_list (pe_lst (pa_cons pe_int (pa_cons pe_int (pa_cons pe_int pa_nil))))) (pg_name (i := 9) sc_law_is_left.nd rfl (Or.inr rfl))
    (pss_one (ps_expr (pe_bm PySem.F.plainAttrs_list PySem.F.slot_list_append PySem.F.type_list_append mt_append (pv 8) (pa_cons (pe_call G_law_mask (hr.mono (by omega)) (by rfl) T.m_law_mask T.F_law_mask.kp T.b_law_mask .nil pass0 (pa_cons (pe_lc (own := [("at", 6)]) (g := (gName 6)) (tt := _) rfl sc_law_is_left.nd (pi_list (pe_callB (cr_sortedSet rfl) (by rfl) T.z_sorted (by decide +kernel) (pa_cons (pe_callTy (cr_setOfI rfl) (by rfl) T.z_set (by decide +kernel) (pa_cons (pv 7) pa_nil)) pa_nil))) (blkOk_by (N := N_law_is_left) (sc := defScope s_law_is_left) (by decide +kernel)) (fun _ _ _ _ _ => (pg_name (i := 6) sc_law_is_left.nd rfl (Or.inl rfl))) (fun _ _ _ _ _ => (pts_one (PW.pt (pw_and (pt_cmpR op_ge (pv 6) pe_int (nomark _)) (pw_and1 (pt_cmpR op_eq (pe_ix (ix_tupK (K := K) rfl) (pv 1) (pv 6) (fun _ _ => rfl)) (pv 9) (nomark _))))))) (fun _ _ _ _ _ => (pv 6))) pa_nil)) pa_nil)))))
    (pss_one (ps_if (PW.pt (pw_and (pt_cmpR op_notIn_seq (pe_un un_neg pe_int) (pv 7) (by rfl)) (pw_and1 (pt_cmpR op_eq (pe_callB call_len_seq (by rfl) T.z_len PySem.boot_len (pa_cons (pe_lc (own := [("part", 10)]) (g := (gName 10)) (tt := _) rfl sc_law_is_left.nd (pi_list (pv 8)) (blkOk_by (N := N_law_is_left) (sc := defScope s_law_is_left) (by decide +kernel)) (fun _ _ _ _ _ => (pg_name (i := 10) sc_law_is_left.nd rfl (Or.inl rfl))) (fun _ _ _ _ _ => (pts_one (PW.pt (pw_and (pt_cmpR op_gt (pv 10) pe_int (nomark _)) (pw_and1 (pt_cmpR (op_notIn_seqK (K := K) rfl) (pv 10) (pv 2) (by rfl))))))) (fun _ _ _ _ _ => (pv 10))) pa_nil)) pe_int (nomark _)))))
    (pss_one (ps_ret pe_bl))
    pss_nil)))))))
    (pss_one (ps_ret pe_bl)))), ?_⟩
  refine ⟨_, rfl, _, rfl, .ref b0, A0, m, rfl, hA, h5, m0, m64, fun kl H1 s1 kkl => ?_⟩
  have hmemX : ∀ p ∈ setM A0.length m, 0 ≤ p ∧ p < (A0.length : Int) := fun p hp => mem_setM hp
  have hXlen : (setM A0.length m).length ≤ 5 := by
    have := asc_short (lo := 0) (hi := (A0.length : Int)) (asc_setM _ m) (fun x hx => hmemX x hx) (by omega)
    omega
  have hleft : isLeft A0 (rdF R) L m ↔ ∃ i, i < wid A0 (setM A0.length m) ∧ goodM A0 (rdF R) L (setM A0.length m) i := Iff.rfl
  rw [hleft] at q
  generalize hX : setM A0.length m = X at *
  have hsh := opt_short hG (Nat.le_trans h5 (by decide : 5 ≤ 6))
  refine ⟨_, rfl, kl, rfl, ⟨_, sqd kkl⟩, fun wl hwl => ?_⟩
  refine lc_list (K := K) (a := kl) (xs := X.map V.int) (fun (j : Nat) (H' : Hp) => Same H1 H' ∧ H' wl = some (.lst (((X.take j).map fun p => ((lenOf A0 p : Nat) : Int)).map V.int))) ?_ ?_ ?_ ?_
  · exact ⟨same_new hwl _, upd_same⟩
  · rintro j H' _ ⟨s6, _⟩
    exact sqd (s6 _ _ kkl)
  · rintro j x H6 hx ⟨s6, k6⟩
    rw [List.getElem?_map] at hx
    obtain ⟨p, hp, rfl⟩ := Option.map_eq_some_iff.mp hx
    obtain ⟨p0, p1⟩ := hmemX p (List.mem_of_getElem? hp)
    obtain ⟨os, x, hos, hat, b1, ys, rfl, eb1, hys⟩ := hzs0.atI p0 p1
    have hj := (List.getElem?_eq_some_iff.mp hp).1
    have s06 := s1.trans s6
    refine ⟨rfl, yes_if ?_⟩
    refine ⟨_, rfl, _, rfl, b0, _, _, _, rfl, rfl, sqt (s06 _ _ e0), hat, b1, _, rfl, .inr (sqt (s06 _ _ eb1)), _, k6, big' (by rw [List.length_map, List.length_map, List.length_take]; omega), same_put s6 hwl, ?_⟩
    rw [upd_same, List.take_add_one, hp, List.map_append, List.map_append, hys.1, ← lenOf_at hos]
    rfl
  rintro H6 ⟨s6, k6⟩
  rw [List.length_map, List.take_length] at k6
  refine ⟨wl, _, rfl, sqd k6, by rw [List.length_map]; exact List.length_pos_iff.mpr hne, fun mn hmn hmle => ?_⟩
  generalize hwd : wid A0 X = wd at *
  have hmw : mn = ((wd : Nat) : Int) := by
    obtain ⟨p, hp, e⟩ := List.mem_map.mp hmn
    have h1 : mn.toNat = wid A0 X := wid_is (fun p hp => by have := hmle _ (List.mem_map.mpr ⟨p, hp, rfl⟩); omega) ⟨p, hp, by omega⟩
    rw [hwd] at h1
    omega
  have hwd12 : wd ≤ 12 := by
    obtain ⟨p, hp, e⟩ := wid_mem (A := A0) hne
    rw [hwd] at e
    obtain ⟨p0, p1⟩ := hmemX p hp
    have hk2 : p.toNat < A0.length := by omega
    have := (hG.2 _ (List.getElem_mem hk2)).1
    have e2 := lenOf_at (A := A0) (p := p) (List.getElem?_eq_getElem hk2)
    omega
  have hwle : ∀ i, i < wd → ∀ p ∈ X, i < lenOf A0 p := fun i hi p hp => by
    have := wid_le (A := A0) p hp
    omega
  refine ⟨mn, rfl, by omega, by omega, for_range (lo := 0) (n := mn.toNat) (fun (i : Nat) (σ : L2.St) (H' : Hp) => ∃ (y5 y6 y7 y8 y9 y10 : Option V), σ = [some (.ref b0), some (.ref ra), some (.ref la), some (.int m), some (.ref kl), y5, y6, y7, y8, y9, y10] ∧ Same H1 H' ∧ ∀ i', i' < i → ¬ goodM A0 (rdF R) L X i') ?_ ?_ ?_⟩
  · exact ⟨_, _, _, _, _, _, rfl, s6, fun i' h => absurd h (Nat.not_lt_zero _)⟩
  · rintro i σ H7 hi ⟨y5, y6, y7, y8, y9, y10, rfl, s7, hno⟩
    have hiw : i < wd := by omega
    have s07 := s1.trans s7
    refine ⟨Nat.zero_le _, fun al hal => ?_⟩
    obtain ⟨H8, e8, s8, k8⟩ := newH hal (.lst [])
    rw [e8]
    have kkl7 := s7 _ _ kkl
    refine ⟨_, rfl, kl, rfl, ⟨_, sqd (s8 _ _ kkl7)⟩, ?_⟩
    refine for_list (K := K) (a := kl) (xs := X.map V.int) (fun (t : Nat) (σ : L2.St) (H' : Hp) => ∃ (y6 : Option V) (al : Addr), σ = [some (.ref b0), some (.ref ra), some (.ref la), some (.int m), some (.ref kl), some (.int (0 + (i : Int))), y6, some (.ref al), y8, y9, y10] ∧ Same H7 H' ∧ H7 al = none ∧ H' al = some (.lst (((X.take t).flatMap fun p => optOf A0 p i).map V.int))) ?_ ?_ ?_ ?_
    · exact ⟨_, al, rfl, s8, hal, k8⟩
    · rintro t σ H' _ ⟨y6, al, rfl, s9, _⟩
      exact sqd (s9 _ _ kkl7)
    · rintro t x σ H9 hx ⟨y6, al, rfl, s9, hal7, k9⟩
      rw [List.getElem?_map] at hx
      obtain ⟨p, hp, rfl⟩ := Option.map_eq_some_iff.mp hx
      have hpm := List.mem_of_getElem? hp
      obtain ⟨p0, p1⟩ := hmemX p hpm
      obtain ⟨os, o, hos, ho, eo, el, hO, ho1, ho2⟩ := optOf_g hG p0 p1 (hwle i hiw p hpm)
      obtain ⟨os', x, hos', hat, b1, ys, rfl, eb1, hys⟩ := hzs0.atI p0 p1
      rw [hos] at hos'
      cases hos'
      obtain ⟨y, hy, b2, rfl, eb2⟩ := hys.at ho
      have s09 := s07.trans s9
      have hol := hO.len
      have hfl : ((X.take t).flatMap fun p => optOf A0 p i).length ≤ 5000 := by
        have : ∀ l : List Int, (∀ p ∈ l, p ∈ X) → (l.flatMap fun p => optOf A0 p i).length ≤ l.length * 60 := fun l => by
          induction l with
          | nil => intro _; exact Nat.le_refl _
          | cons a r ih =>
            intro h
            have ha := hmemX a (h a List.mem_cons_self)
            obtain ⟨_, _, _, _, e, _, hO', _⟩ := optOf_g hG ha.1 ha.2 (hwle i hiw a (h a List.mem_cons_self))
            rw [List.flatMap_cons, List.length_append, List.length_cons, e]
            have h1 := hO'.len
            have h2 := ih fun p hp => h p (List.mem_cons_of_mem _ hp)
            omega
        have h1 := this (X.take t) fun p hp => List.mem_of_mem_take hp
        have h2 : (X.take t).length ≤ 5 := by rw [List.length_take]; omega
        omega
      refine ⟨_, rfl, _, rfl, _, rfl, b0, _, _, _, rfl, rfl, sqt (s09 _ _ e0), hat, _, rfl, b1, _, _, _, rfl, rfl, sqt (s09 _ _ eb1), by rw [Int.zero_add]; exact atI_nat hy, b2, _, rfl, .inr (sqt (s09 _ _ eb2)), fun l2 hl2 => ?_⟩
      obtain ⟨HA, eA, sA, kA⟩ := newH hl2 (.lst (o.map V.int))
      rw [eA]
      refine ⟨al, l2, _, _, rfl, rfl, sA _ _ k9, kA, big (by rw [List.length_map, List.length_map]; omega), fun p3 hp3 => ?_⟩
      obtain ⟨HB, eB, sB, kB⟩ := newH hp3 (.lst (((X.take t).flatMap fun p => optOf A0 p i).map V.int ++ o.map V.int))
      rw [eB]
      refine ⟨_, p3, rfl, (s9.trans sA).trans sB, (s9.trans sA).free hp3, ?_⟩
      rw [kB, List.take_add_one, hp, List.flatMap_append, List.map_append]
      congr 2
      show _ = _ ++ ([p].flatMap fun p => optOf A0 p i).map V.int
      rw [List.flatMap_cons, List.flatMap_nil, List.append_nil, eo]
    rintro σ H9 ⟨y6', al9, rfl, s9, hal9, k9⟩
    rw [List.length_map, List.take_length] at k9
    have k9 : H9 al9 = some (.lst ((aft A0 X i).map V.int)) := k9
    have haftl : (aft A0 X i).length ≤ 35 := by
      have : ∀ l : List Int, (∀ p ∈ l, p ∈ X) → (l.flatMap fun p => optOf A0 p i).length ≤ l.length * 7 := fun l => by
        induction l with
        | nil => intro _; exact Nat.le_refl _
        | cons a r ih =>
          intro h
          have ha := hmemX a (h a List.mem_cons_self)
          obtain ⟨_, _, _, _, e, _, _, ho1, ho2⟩ := optOf_g hG ha.1 ha.2 (hwle i hiw a (h a List.mem_cons_self))
          rw [List.flatMap_cons, List.length_append, List.length_cons, e]
          have h1 := hsh _ ho2 _ ho1
          have h2 := ih fun p hp => h p (List.mem_cons_of_mem _ hp)
          omega
      have h1 := this X fun p hp => hp
      unfold aft
      omega
    have haft := succs_mem hG hmemX (hwle i hiw)
    refine ⟨Nat.zero_le _, fun ml hml => ?_⟩
    obtain ⟨HA, eA, sA, kA⟩ := newH hml (.lst [])
    rw [eA]
    refine ⟨Nat.le_of_ble_eq_true rfl, fun rl hrl => ?_⟩
    obtain ⟨HB, eB, sB, kB⟩ := newH hrl (.lst (([0, 1, 2] : List Int).map V.int))
    rw [show upd HA rl (.lst [V.int 0, V.int 1, V.int 2]) = HB from eB]
    have s9A := sA
    refine ⟨rl, rfl, ⟨_, sqd kB⟩, ?_⟩
    have hrlm : rl ≠ ml := fun z => by rw [z, kA] at hrl; cases hrl
    have halm : al9 ≠ ml := fun z => by rw [← z, k9] at hml; cases hml
    refine for_list (K := K) (a := rl) (xs := ([0, 1, 2] : List Int).map V.int) (fun (t : Nat) (σ : L2.St) (H' : Hp) => ∃ (y9 : Option V), σ = [some (.ref b0), some (.ref ra), some (.ref la), some (.int m), some (.ref kl), some (.int (0 + (i : Int))), y6', some (.ref al9), some (.ref ml), y9, y10] ∧ Same H9 H' ∧ H' rl = some (.lst (([0, 1, 2] : List Int).map V.int)) ∧ H' ml = some (.lst (((([0, 1, 2] : List Int).take t).map fun r => maskS (partM A0 (rdF R) X i r)).map V.int))) ?_ ?_ ?_ ?_
    · exact ⟨_, rfl, sA.trans sB, kB, sB _ _ kA⟩
    · rintro t σ H' _ ⟨y9, rfl, _, k, _⟩
      exact sqd k
    · rintro t x σ HC hx ⟨y9, rfl, sC, krC, kmC⟩
      rw [List.getElem?_map] at hx
      obtain ⟨r, hr3, rfl⟩ := Option.map_eq_some_iff.mp hx
      have ht3 : t < 3 := (List.getElem?_eq_some_iff.mp hr3).1
      have k9C := sC _ _ k9
      refine ⟨_, rfl, .inl ⟨rfl, _, sqd kmC⟩, _, rfl, al9, _, rfl, sqd k9C, by omega, fun s0 c hs0 hc => ?_⟩
      have sD := same_new hs0 (SetO w s0 (fun j => decide (j ∈ aft A0 X i)) c)
      refine ⟨s0, _, c, rfl, upd_same, by omega, fun zs q1 hasc hmem hlen hq1 => ?_⟩
      have hzs : zs = succs A0 X i := srt_is hasc fun x => by rw [hmem, decide_eq_true_iff]
      subst hzs
      obtain ⟨HF, eF, sF, kF⟩ := newH hq1 (.lst ((succs A0 X i).map V.int))
      rw [eF]
      have sCF := sD.trans sF
      have hsl : (succs A0 X i).length ≤ 35 := Nat.le_trans srt_len haftl
      refine ⟨q1, rfl, ⟨_, sqd kF⟩, fun D hD => ?_⟩
      refine lc_list (K := K) (a := q1) (xs := (succs A0 X i).map V.int) (fun (t : Nat) (H' : Hp) => Same HF H' ∧ H' D = some (.lst ((((succs A0 X i).take t).filter fun p => decide (0 ≤ p) && decide (rdF R p = r)).map V.int))) ?_ ?_ ?_ ?_
      · exact ⟨same_new hD _, upd_same⟩
      · rintro t H' _ ⟨s, _⟩
        exact sqd (s _ _ kF)
      · rintro t x HG hx ⟨sG, kG⟩
        rw [List.getElem?_map] at hx
        obtain ⟨p, hp, rfl⟩ := Option.map_eq_some_iff.mp hx
        have hps := haft p (List.mem_of_getElem? hp)
        have hfl63 := List.length_filter_le (fun p : Int => decide (0 ≤ p) && decide (rdF R p = r)) ((succs A0 X i).take t)
        rw [List.length_take] at hfl63
        have hnx : ((succs A0 X i).take (t + 1)).filter (fun p => decide (0 ≤ p) && decide (rdF R p = r)) = ((succs A0 X i).take t).filter (fun p => decide (0 ≤ p) && decide (rdF R p = r)) ++ if (decide (0 ≤ p) && decide (rdF R p = r)) = true then [p] else [] := by
          rw [List.take_add_one, hp, List.filter_append]
          congr 1
          show List.filter _ [p] = _
          simp only [List.filter_cons, List.filter_nil]
        refine ⟨rfl, ?_⟩
        refine ⟨_, rfl, _, _, rfl, rfl, _, rfl, ?_⟩
        by_cases h : 0 ≤ p
        · refine ifT (decide_eq_true h) ?_
          have hraG := sG _ _ (sCF _ _ (sC _ _ (s9 _ _ (s07 _ _ hra))))
          refine ⟨_, rfl, _, rfl, ra, _, _, _, rfl, rfl, sqt hraG, rdF_at h (by omega), _, rfl, rfl, _, rfl, ?_⟩
          by_cases h2 : rdF R p = r
          · refine ifT (decide_eq_true (by rw [h2])) ?_
            refine ⟨_, rfl, _, kG, big' (by rw [List.length_map]; omega), same_put sG hD, ?_⟩
            rw [upd_same, hnx, if_pos (by rw [decide_eq_true h, decide_eq_true h2]; rfl), List.map_append]
            rfl
          · refine ifF (decide_eq_false (fun e => h2 (V.int.inj e))) ⟨sG, ?_⟩
            rw [hnx, if_neg (by rw [decide_eq_false h2, Bool.and_false]; exact Bool.false_ne_true), List.append_nil]
            exact kG
        · refine ifF (decide_eq_false h) (iteF ⟨sG, ?_⟩)
          rw [hnx, if_neg (by rw [decide_eq_false h, Bool.false_and]; exact Bool.false_ne_true), List.append_nil]
          exact kG
      rintro HG ⟨sG, kG⟩
      rw [List.length_map, List.take_length] at kG
      have kG : HG D = some (.lst ((partM A0 (rdF R) X i r).map V.int)) := kG
      have hpl : (partM A0 (rdF R) X i r).length ≤ 60 := by
        have := List.length_filter_le (fun p : Int => decide (0 ≤ p) && decide (rdF R p = r)) (succs A0 X i)
        unfold partM
        show (List.filter _ (succs A0 X i)).length ≤ 60
        omega
      refine ⟨D, _, rfl, kG, hpl, fun p hp => by have := part_mem hG hmemX (hwle i hiw) p hp; omega, fun HI sI => ?_⟩
      have sCI := (sCF.trans sG).trans sI
      have kmI := sCI _ _ kmC
      refine ⟨ml, _, _, rfl, rfl, kmI, big' (by rw [List.length_map, List.length_map, List.length_take]; omega), ?_⟩
      refine ⟨_, rfl, same_put (sC.trans sCI) hml, by rw [upd_ne hrlm]; exact sCI _ _ krC, ?_⟩
      rw [upd_same, List.take_add_one, hr3, List.map_append, List.map_append]
      rfl
    rintro σ HC ⟨y9', rfl, sC, krC, kmC⟩
    have kmC : HC ml = some (.lst ((([0, 1, 2] : List Int).map fun r => maskS (partM A0 (rdF R) X i r)).map V.int)) := kmC
    have k9C := sC _ _ k9
    refine ⟨_, rfl, _, rfl, al9, _, rfl, .inl (sqd k9C), rfl, flat_ints' _, _, rfl, ?_⟩
    rw [notIn_int]
    by_cases h : (-1 : Int) ∈ aft A0 X i
    · rw [decide_eq_true h]
      refine ifF rfl (iteF ⟨_, _, _, _, _, _, rfl, (s7.trans s9).trans sC, fun i' hi' => ?_⟩)
      by_cases hii : i' = i
      · rw [hii]
        exact fun g => g.1 h
      · exact hno i' (by omega)
    rw [decide_eq_false h]
    refine ifT rfl ?_
    generalize hms : (([0, 1, 2] : List Int).map fun r => maskS (partM A0 (rdF R) X i r)) = ms at *
    have hmsl : ms.length = 3 := by rw [← hms]; rfl
    refine ⟨_, rfl, ml, rfl, ⟨_, sqd kmC⟩, fun D hD => ?_⟩
    refine lc_list (K := K) (a := ml) (xs := ms.map V.int) (fun (t : Nat) (H' : Hp) => Same HC H' ∧ ∃ zs : List Int, H' D = some (.lst (zs.map V.int)) ∧ zs.length ≤ t ∧ (zs = [] ↔ ∀ x ∈ ms.take t, 0 < x → x ∈ L)) ?_ ?_ ?_ ?_
    · exact ⟨same_new hD _, [], upd_same, Nat.le_refl _, ⟨fun _ x hx => by rw [List.take_zero] at hx; exact (nomatch hx), fun _ => rfl⟩⟩
    · rintro t H' _ ⟨s, _⟩
      exact sqd (s _ _ kmC)
    · rintro t x HD hx ⟨sD, zs, kD, hzl, hzs⟩
      rw [List.getElem?_map] at hx
      obtain ⟨p, hp, rfl⟩ := Option.map_eq_some_iff.mp hx
      have htl := (List.getElem?_eq_some_iff.mp hp).1
      have htk : ms.take (t + 1) = ms.take t ++ [p] := by rw [List.take_add_one, hp]; rfl
      have stay : (0 < p → p ∈ L) → (zs = [] ↔ ∀ x ∈ ms.take (t + 1), 0 < x → x ∈ L) := fun hpL => by
        rw [hzs, htk]
        constructor
        · intro h x hx
          rcases List.mem_append.mp hx with hx | hx
          · exact h x hx
          · rw [List.mem_singleton.mp hx]
            exact hpL
        · exact fun h x hx => h x (List.mem_append_left _ hx)
      refine ⟨rfl, ?_⟩
      refine ⟨_, rfl, _, _, rfl, rfl, _, rfl, ?_⟩
      by_cases h1 : 0 < p
      · refine ifT (decide_eq_true h1) ?_
        have hlaD := sD _ _ (sC _ _ (s9 _ _ (s07 _ _ hla)))
        refine ⟨_, rfl, _, rfl, la, _, rfl, .inl (sqd hlaD), rfl, flat_ints' _, _, rfl, ?_⟩
        rw [notIn_int]
        by_cases h2 : p ∈ L
        · rw [decide_eq_true h2]
          exact ifF rfl ⟨sD, zs, kD, by omega, stay fun _ => h2⟩
        · rw [decide_eq_false h2]
          refine ifT rfl ⟨_, rfl, _, kD, big' (by rw [List.length_map]; omega), same_put sD hD, zs ++ [p], by rw [upd_same, List.map_append]; rfl, by rw [List.length_append]; exact Nat.add_le_add_right hzl 1, ?_⟩
          constructor
          · intro e
            simp at e
          · intro h3
            exact absurd (h3 p (by rw [htk]; simp) h1) h2
      · exact ifF (decide_eq_false h1) (iteF ⟨sD, zs, kD, by omega, stay fun h => absurd h h1⟩)
    rintro HD ⟨sD, zs, kD, hzl, hzs⟩
    rw [List.length_map, List.take_length] at hzs
    have hgood : goodM A0 (rdF R) L X i ↔ zs = [] := by
      rw [hzs, ← hms]
      constructor
      · intro hg x hx hx0
        obtain ⟨r, hr, e⟩ := List.mem_map.mp hx
        have hr3 : 0 ≤ r ∧ r ≤ 2 := by
          simp only [List.mem_cons, List.not_mem_nil, or_false] at hr
          omega
        rw [← e] at hx0 ⊢
        exact hg.2 r hr3.1 hr3.2 hx0
      · refine fun hz => ⟨h, fun r r0 r2 hr => hz _ (List.mem_map.mpr ⟨r, ?_, rfl⟩) hr⟩
        have : r = 0 ∨ r = 1 ∨ r = 2 := by omega
        simp only [List.mem_cons, List.not_mem_nil, or_false]
        exact this
    have s1D := ((s7.trans s9).trans sC).trans sD
    refine ⟨D, _, rfl, .inl (sqd kD), rfl, _, rfl, ?_⟩
    rw [List.length_map]
    by_cases hz : zs = []
    · subst hz
      refine ifT rfl ?_
      exact q true HD (s1.trans s1D) ⟨fun _ => ⟨i, hiw, hgood.mpr rfl⟩, fun _ => rfl⟩
    · have hpos := List.length_pos_iff.mpr hz
      refine ifF (decide_eq_false fun e => by have := V.int.inj e; omega) ⟨_, _, _, _, _, _, rfl, s1D, fun i' hi' => ?_⟩
      by_cases hii : i' = i
      · rw [hii]
        exact fun g => hz (hgood.mp g)
      · exact hno i' (by omega)
  rintro σ H7 ⟨y5, y6, y7, y8, y9, y10, rfl, s7, hno⟩
  refine q false H7 (s1.trans s7) ⟨fun h => (Bool.false_ne_true h).elim, ?_⟩
  rintro ⟨i, hi, hg⟩
  exact absurd hg (hno i (by omega))
end
end NL

set_option maxHeartbeats 8000000
namespace NL
open PySem PySem.Spec PyProof.Rows L2
theorem sl_tupAK {X : Cx} {K : PySem.W.Frag} (h : X.K = K) : SlR X (rSlA K) := by
  subst h
  exact sl_tupA
theorem pi_listK {X : Cx} {K : PySem.W.Frag} {tg l : Expr} {tl : TE} (h : X.K = K) (e : PE X l tl) : PI X tg l (iList K tl) := by
  subst h
  exact pi_list e
theorem rdF_map {n : Nat} {f : Int → Int} {p : Int} (h0 : 0 ≤ p) (h1 : p < (n : Int)) : rdF ((List.range n).map fun k : Nat => f (0 + (k : Int))) p = f p := by
  obtain ⟨k, rfl, hk⟩ : ∃ k : Nat, p = (k : Int) ∧ k < n := ⟨p.toNat, by omega, by omega⟩
  unfold rdF
  rw [Int.toNat_natCast, List.getD_eq_getElem?_getD, List.getElem?_map, List.getElem?_range hk]
  show f (0 + (k : Int)) = _
  rw [Int.zero_add]
theorem shaped_I (l : List Int) : SeqAt.shaped (.list (l.map PyData.int)) = true := by
  obtain ⟨h1, h2⟩ := lay_intsR l
  show (PyData.canLayAll0 (l.map PyData.int) && decide (PyData.depthAll (l.map PyData.int) + 1 ≤ 64)) = true
  rw [h1, h2]
  rfl
theorem eqv_I (l m : List Int) : PyData.eqv (.list (l.map PyData.int)) (.list (m.map PyData.int)) = decide (l = m) := eqv_intsR l m
theorem top_at {n : Nat} (h : n ≤ 5) : atI (([1, 2, 4, 8, 16, 32] : List Int).map V.int) (n : Int) = some (.int (top5 n)) ∧ 1 ≤ top5 n ∧ top5 n ≤ 32 := by
  have hn : n = 0 ∨ n = 1 ∨ n = 2 ∨ n = 3 ∨ n = 4 ∨ n = 5 := by omega
  rcases hn with e | e | e | e | e | e <;> subst e
  · exact ⟨atI_nat (j := 0) rfl, by decide, by decide⟩
  · exact ⟨atI_nat (j := 1) rfl, by decide, by decide⟩
  · exact ⟨atI_nat (j := 2) rfl, by decide, by decide⟩
  · exact ⟨atI_nat (j := 3) rfl, by decide, by decide⟩
  · exact ⟨atI_nat (j := 4) rfl, by decide, by decide⟩
  · exact ⟨atI_nat (j := 5) rfl, by decide, by decide⟩
theorem ArG.cut {A : Ar} (h : ArG A) : ArG (A.map fun os => os.take 3) := by
  refine ⟨by rw [List.length_map]; exact h.1, fun os hos => ?_⟩
  obtain ⟨os', h1, e⟩ := List.mem_map.mp hos
  rw [List.length_map, ← e]
  have h2 := h.2 os' h1
  exact ⟨by rw [List.length_take]; have := h2.1; omega, fun o ho => h2.2 o (List.mem_of_mem_take ho)⟩
/-- the masks that a round may still hold -/
structure LInv (A : Ar) (rd : Int → Int) (Kp L : List Int) : Prop where
  rng : ∀ m ∈ L, 1 ≤ m ∧ m < top5 A.length
  kp : ∀ m ∈ L, ∀ p ∈ setM A.length m, p ∈ Kp
  win : ∀ g, Win A rd Kp g → maskS g ∈ L
def fltR (rd : Int → Int) (st : List Int) (r : Int) : List Int := st.filter fun p => decide (rd p = r)
theorem all_left {A : Ar} {rd : Int → Int} {Kp L st : List Int} (hG : ArG A) (h5 : A.length ≤ 5) (h3 : R3 rd (A.length : Int)) (hs : Asc st) (hm : ∀ p ∈ st, 0 ≤ p ∧ p < (A.length : Int)) (hL : LInv A rd Kp L) (hf : ∀ m ∈ L, isLeft A rd L m) :
    (∀ r ∈ ([0, 1, 2] : List Int), 0 < maskS (fltR rd st r) → maskS (fltR rd st r) ∈ L) ↔ ∀ g ∈ prt rd st, Win A rd Kp g := by
  have hpos : ∀ r, 0 < maskS (fltR rd st r) ↔ fltR rd st r ≠ [] := fun r => (mask_pos (asc_filter _ hs) fun x hx => by have := hm x (List.mem_filter.mp hx).1; omega).2.2
  constructor
  · intro h g hg
    obtain ⟨p, hp, e⟩ := mem_prt hg
    have hr := h3 p (hm p hp).1 (hm p hp).2
    have e : g = fltR rd st (rd p) := e
    have hne : fltR rd st (rd p) ≠ [] := fun h0 => by
      have : p ∈ fltR rd st (rd p) := List.mem_filter.mpr ⟨hp, decide_eq_true rfl⟩
      rw [h0] at this
      cases this
    have hks := prt_ks hs hm g hg
    refine left_win hG h5 h3 hL.kp hf hks ?_
    rw [e]
    refine h _ ?_ ((hpos _).mpr hne)
    have : rd p = 0 ∨ rd p = 1 ∨ rd p = 2 := by omega
    simp only [List.mem_cons, List.not_mem_nil, or_false]
    exact this
  · intro h r _ hr0
    obtain ⟨p, hp⟩ := List.exists_mem_of_ne_nil _ ((hpos r).mp hr0)
    obtain ⟨hp1, hp2⟩ := List.mem_filter.mp hp
    have e := of_decide_eq_true hp2
    rw [← e]
    exact hL.win _ (h _ (prt_of hp1))
section
variable {P : Program} {w : World} {K : PySem.W.Frag} {mg : Str → Option Value} {base : Heap}
theorem ok_law (T : Txt K mg) {c Pt : Addr} (TB : GxR.TabB base mg c Pt) (hc : T.dforces.code = .ref c) : FnOk P w K mg base CX0 7 T.alaw T.dlaw Plaw (spLawT K Pt) := by
  have G_law_draws := ok_law_draws (P := P) (w := w) (base := base) T
  have G_law_take := ok_law_take (P := P) (w := w) (base := base) T
  have G_law_arena := ok_law_arena (P := P) (w := w) (base := base) T
  have G_law_some := ok_law_some (P := P) (w := w) (base := base) T
  have G_law_set := ok_law_set (P := P) (w := w) (base := base) T
  have G_law_mask := ok_law_mask (P := P) (w := w) (base := base) T
  have G_law_is_left := ok_law_is_left (P := P) (w := w) (base := base) T
  have G_law_is_truth := ok_law_is_truth (P := P) (w := w) (base := base) T
  have Gcan_know := ok_can_know (P := P) (w := w) T TB hc
  refine T.Flaw.ok sclaw (fun vs H Q E h => ?_) (fun cdv A outer s H vs Q E hr h => ?_)
  · obtain ⟨a, ns, rfl, _⟩ := h
    rfl
  obtain ⟨a, ns, rfl, hSq, hl, hT, q⟩ := h
  refine ⟨_, (pss_cons (ps_set (i := 1) sclaw.nd rfl (Or.inl rfl) (pe_call G_law_draws (hr.mono (by omega)) (by rfl) T.m_law_draws T.F_law_draws.kp T.b_law_draws .nil pass0 (pa_cons (pv 0) (pa_cons pe_int pa_nil))))
    (pss_cons (ps_set (i := 2) sclaw.nd rfl (Or.inr rfl) (pe_call G_law_arena (hr.mono (by omega)) (by rfl) T.m_law_arena T.F_law_arena.kp T.b_law_arena .nil pass0 (pa_cons (pv 1) (pa_cons pe_int pa_nil))))
    (C8.pss_cut (ps_if (pt_cmpR op_gt (pe_callB call_len_seq (by rfl) T.z_len PySem.boot_len (pa_cons (pv 2) pa_nil)) pe_int (nomark _))
    (pss_one (ps_set (i := 2) sclaw.nd rfl (Or.inr rfl) (pe_slice sl_tupA (pv 2) po_none (po_some pe_int))))
    pss_nil)
    (pss_cons (ps_set (i := 2) sclaw.nd rfl (Or.inr rfl) (pe_callTy call_tuple_of (by rfl) T.z_tuple (by decide +kernel) (pa_cons (pe_lc (own := [("options", 3)]) (g := (gName 3)) (tt := tYes) rfl sclaw.nd (pi_tup (pv 2)) (blkOk_by (N := Nlaw) (sc := defScope slaw) (by decide +kernel)) (fun _ _ _ _ _ => (pg_name (i := 3) sclaw.nd rfl (Or.inl rfl))) (fun _ _ _ _ _ => pts_nil) (fun _ _ _ _ _ => (pe_slice (sl_tupAK (K := K) rfl) (pv 3) po_none (po_some pe_int)))) pa_nil)))
    (pss_cons (ps_set (i := 4) sclaw.nd rfl (Or.inr rfl) (pe_call G_law_some (hr.mono (by omega)) (by rfl) T.m_law_some T.F_law_some.kp T.b_law_some .nil pass0 (pa_cons (pv 1) (pa_cons (pv 2) (pa_cons pe_int pa_nil)))))
    (pss_cons (ps_set (i := 5) sclaw.nd rfl (Or.inl rfl) (pe_call G_law_some (hr.mono (by omega)) (by rfl) T.m_law_some T.F_law_some.kp T.b_law_some .nil pass0 (pa_cons (pv 1) (pa_cons (pv 2) (pa_cons pe_int pa_nil)))))
    (pss_cons (ps_set (i := 6) sclaw.nd rfl (Or.inr rfl) (pe_call G_law_take (hr.mono (by omega)) (by rfl) T.m_law_take T.F_law_take.kp T.b_law_take .nil pass0 (pa_cons (pv 1) (pa_cons pe_int pa_nil))))
    (pss_cons (ps_set (i := 7) sclaw.nd rfl (Or.inr rfl) (pe_op op_add pe_int (pe_call G_law_take (hr.mono (by omega)) (by rfl) T.m_law_take T.F_law_take.kp T.b_law_take .nil pass0 (pa_cons (pv 1) (pa_cons pe_int pa_nil)))))
    (pss_cons (ps_set (i := 8) sclaw.nd rfl (Or.inr rfl) (pe_callTy call_tuple_of (by rfl) T.z_tuple (by decide +kernel) (pa_cons (pe_lc (own := [("k", 9)]) (g := (gName 9)) (tt := tYes) rfl sclaw.nd (pi_range1 (by rfl) T.z_range (pa_cons (pe_callB call_len_seq (by rfl) T.z_len PySem.boot_len (pa_cons (pv 2) pa_nil)) pa_nil)) (blkOk_by (N := Nlaw) (sc := defScope slaw) (by decide +kernel)) (fun _ _ _ _ _ => (pg_name (i := 9) sclaw.nd rfl (Or.inl rfl))) (fun _ _ _ _ _ => pts_nil) (fun _ _ _ _ _ => (pe_op op_mod (pe_callTy call_int1 (by rfl) T.z_int (by decide +kernel) (pa_cons (pe_op op_mul (pv 9) (pv 6)) pa_nil)) (pv 7)))) pa_nil)))
    (pss_cons (ps_set (i := 10) sclaw.nd rfl (Or.inr rfl) (pe_lc (own := [("mask", 11)]) (g := (gName 11)) (tt := tYes) rfl sclaw.nd (pi_range2 (by rfl) T.z_range (pa_cons pe_int (pa_cons (pe_ix ix_list (pe_lst (pa_cons pe_int (pa_cons pe_int (pa_cons pe_int (pa_cons pe_int (pa_cons pe_int (pa_cons pe_int pa_nil))))))) (pe_callB call_len_seq (by rfl) T.z_len PySem.boot_len (pa_cons (pv 2) pa_nil)) (fun _ _ => rfl)) pa_nil))) (blkOk_by (N := Nlaw) (sc := defScope slaw) (by decide +kernel)) (fun _ _ _ _ _ => (pg_name (i := 11) sclaw.nd rfl (Or.inl rfl))) (fun _ _ _ _ _ => pts_nil) (fun _ _ _ _ _ => (pv 11))))
    (pss_cons (ps_set (i := 10) sclaw.nd rfl (Or.inr rfl) (pe_lc (own := [("mask", 11)]) (g := (gName 11)) (tt := _) rfl sclaw.nd (pi_list (pv 10)) (blkOk_by (N := Nlaw) (sc := defScope slaw) (by decide +kernel)) (fun _ _ _ _ _ => (pg_name (i := 11) sclaw.nd rfl (Or.inl rfl))) (fun _ _ _ _ _ => (pts_one (pt_cmpR op_eq (pe_callB (call_len_seqK (K := K) rfl) (by rfl) T.z_len PySem.boot_len (pa_cons (pe_lc (own := [("at", 12)]) (g := (gName 12)) (tt := _) rfl sclaw.nd (pi_listK (K := K) rfl (pe_call G_law_set (hr.mono (by omega)) (by rfl) T.m_law_set T.F_law_set.kp T.b_law_set .nil pass0 (pa_cons (pv 2) (pa_cons (pv 11) pa_nil)))) (blkOk_by (by rfl)) (fun _ _ _ _ _ => (pg_name (i := 12) sclaw.nd rfl (Or.inl rfl))) (fun _ _ _ _ _ => (pts_one (pt_cmpR (op_notIn_seqK (K := K) rfl) (pv 12) (pv 4) (by rfl)))) (fun _ _ _ _ _ => (pv 12))) pa_nil)) pe_int (nomark _)))) (fun _ _ _ _ _ => (pv 11))))
    (pss_cons (ps_for  PassesOwn.never rfl (pi_range1 (by rfl) T.z_range (pa_cons pe_int pa_nil)) (pg_name (i := 9) sclaw.nd rfl (Or.inl rfl))
    (pss_cons (ps_setLc (i := 13) (own := [("mask", 11)]) (g := (gName 11)) (tt := _) rfl sclaw.nd rfl rfl (sw_true rfl rfl rfl (by decide +kernel)) (pi_list (pv 10)) (blkOk_by (N := Nlaw) (sc := defScope slaw) (by decide +kernel)) (fun _ _ _ _ _ => (pg_name (i := 11) sclaw.nd rfl (Or.inl rfl))) (fun _ _ _ _ _ => (pts_one (pt_val (pe_call G_law_is_left (hr.mono (by omega)) (by rfl) T.m_law_is_left T.F_law_is_left.kp T.b_law_is_left .nil pass0 (pa_cons (pv 2) (pa_cons (pv 8) (pa_cons (pv 10) (pa_cons (pv 11) pa_nil)))))))) (fun _ _ _ _ _ => (pv 11)))
    (pss_cons (ps_if (pt_cmpR (op_eqD hr.units) (pv 13) (pv 10) (nomark _))
    (pss_one ps_break)
    pss_nil)
    (pss_one (ps_set (i := 10) sclaw.nd rfl (Or.inr rfl) (pv 13))))))
    (pss_cons (ps_set (i := 14) sclaw.nd rfl (Or.inl rfl) pe_bl)
    (pss_cons (ps_for  PassesOwn.never rfl (pi_list (pe_lst (pa_cons pe_int (pa_cons pe_int (pa_cons pe_int pa_nil))))) (pg_name (i := 15) sclaw.nd rfl (Or.inr rfl))
    (pss_cons (ps_set (i := 11) sclaw.nd rfl (Or.inl rfl) (pe_call G_law_mask (hr.mono (by omega)) (by rfl) T.m_law_mask T.F_law_mask.kp T.b_law_mask .nil pass0 (pa_cons (pe_lc (own := [("at", 12)]) (g := (gName 12)) (tt := _) rfl sclaw.nd (pi_tup (pv 5)) (blkOk_by (N := Nlaw) (sc := defScope slaw) (by decide +kernel)) (fun _ _ _ _ _ => (pg_name (i := 12) sclaw.nd rfl (Or.inl rfl))) (fun _ _ _ _ _ => (pts_one (pt_cmpR op_eq (pe_ix (ix_tupK (K := K) rfl) (pv 8) (pv 12) (fun _ _ => rfl)) (pv 15) (nomark _)))) (fun _ _ _ _ _ => (pv 12))) pa_nil)))
    (pss_one (ps_if (PW.pt (pw_and (pt_cmpR op_gt (pv 11) pe_int (nomark _)) (pw_and1 (pt_cmpR op_notIn_seq (pv 11) (pv 10) (by rfl)))))
    (pss_one (ps_set (i := 14) sclaw.nd rfl (Or.inl rfl) pe_bl))
    pss_nil))))
    (pss_one (ps_ret (pe_call G_law_is_truth (hr.mono (by omega)) (by rfl) T.m_law_is_truth T.F_law_is_truth.kp T.b_law_is_truth .nil pass0 (pa_cons (pe_call Gcan_know (hr.mono (by omega)) (by rfl) T.mcan_know T.Fcan_know.kp T.bcan_know .nil pass0 (pa_cons (pv 2) (pa_cons (pv 4) (pa_cons (pv 8) (pa_cons (pv 5) pa_nil))))) (pa_cons (pv 14) pa_nil))))))))))))))))))), ?_⟩
  refine ⟨_, rfl, a, ns, 148, rfl, hSq, hl, by decide, by decide, fun d H1 s1 hd D1 => ?_⟩
  refine ⟨_, rfl, d, 5, rfl, D1, by decide, by decide, fun v A1 H2 g2 hA hG h46 hkind => ?_⟩
  obtain ⟨b0, xs, rfl, e0, hxs⟩ := id hA
  have hxl := hxs.1
  have hT2 : GxR.TabG H2 Pt := g2.tab D1 (TabG.same hT s1)
  refine ⟨fun σ H' => ∃ (b1 : Addr) (A2 : Ar) (y3 y4 y5 y6 y7 y8 y9 y10 y11 y12 y13 y14 y15 : Option V), σ = [some (.ref a), some (.ref d), some (.ref b1), y3, y4, y5, y6, y7, y8, y9, y10, y11, y12, y13, y14, y15] ∧ ArIn H' A2 (.ref b1) ∧ ArG A2 ∧ A2.length ≤ 5 ∧ Go d H2 H', ?_, ?_⟩
  · refine ⟨_, rfl, b0, _, rfl, .inr (sqt e0), _, _, rfl, rfl, _, rfl, ?_⟩
    refine ite2 (fun z => ?_) (fun z => ?_)
    · refine ⟨_, rfl, 0, rfl, ?_⟩
      refine slA_of e0 fun p H3 s3 k3 => ?_
      rw [show cutV xs none (some 0) = xs.take 0 from cut_pre (k := 0), List.take_zero] at k3
      exact ⟨p, [], _, _, _, _, _, _, _, _, _, _, _, _, _, rfl, ⟨p, [], rfl, k3, .nil⟩, ⟨Nat.zero_le _, fun os h => nomatch h⟩, Nat.zero_le _, Go.same g2.dr s3⟩
    · have h5 : A1.length ≤ 5 := by
        have : ¬ (5 : Int) < ((xs.length : Nat) : Int) := fun h => z (decide_eq_true h)
        omega
      exact ⟨b0, A1, _, _, _, _, _, _, _, _, _, _, _, _, _, rfl, hA, hG, h5, Go.refl g2.dr⟩
  rintro σ H3 ⟨b1, A2, y3, y4, y5, y6, y7, y8, y9, y10, y11, y12, y13, y14, y15, rfl, hA2, hG2, h52, g3⟩
  obtain ⟨b1', xs2, eb, e1, hxs2⟩ := id hA2
  cases eb
  have hxl2 := hxs2.1
  refine ⟨_, rfl, b1, rfl, ⟨_, sqt e1⟩, fun D hD => ?_⟩
  refine lc_tup (K := K) (a := b1) (xs := xs2) (fun (t : Nat) (H' : Hp) => Same H3 H' ∧ ∃ zs : List V, H' D = some (.lst zs) ∧ Each (PosIn H') ((A2.take t).map fun os => os.take 3) zs) ?_ ?_ ?_ ?_
  · exact ⟨same_new hD _, [], upd_same, .nil⟩
  · rintro t H' _ ⟨s, _⟩
    exact sqt (s _ _ e1)
  · rintro t x H4 hx ⟨s4, zs, k4, hzs⟩
    have htl := (List.getElem?_eq_some_iff.mp hx).1
    obtain ⟨os, hos⟩ : ∃ os, A2[t]? = some os := ⟨_, List.getElem?_eq_getElem (by omega)⟩
    obtain ⟨bp, ys, rfl, ebp, hys⟩ := hxs2.2 t os x hos hx
    have hzl := hzs.1
    rw [List.length_map, List.length_take] at hzl
    refine ⟨rfl, yes_if ?_⟩
    refine ⟨_, rfl, 3, rfl, ?_⟩
    refine slA_of (s4 _ _ ebp) fun p H5 s5 k5 => ?_
    rw [show cutV ys none (some 3) = ys.take 3 from cut_pre (k := 3)] at k5
    have hpD : p ≠ D := fun z => by rw [z, s5 _ _ k4] at k5; cases k5
    have tpp : Tp H4 (upd H5 D (.lst (zs ++ [.ref p]))) := tp_put (Tp.same s5) (s5 _ _ k4)
    refine ⟨zs, s5 _ _ k4, big' (by omega), same_put (s4.trans s5) hD, zs ++ [.ref p], upd_same, ?_⟩
    rw [List.take_add_one, hos, List.map_append]
    refine (hzs.mono fun o x => PosIn.tp tpp).snoc ⟨p, ys.take 3, rfl, by rw [upd_ne hpD]; exact k5, (hys.take 3).mono fun o x h => OptIn.tp ((Tp.same s4).trans tpp) h⟩
  rintro H4 ⟨s4, zs, k4, hzs⟩
  rw [hxl2, List.take_length] at hzs
  refine ⟨D, _, rfl, .inl ⟨sqd k4, fun b2 hb2 => ?_⟩⟩
  obtain ⟨H5, e5, s5, k5⟩ := newH hb2 (.tup zs)
  rw [e5]
  have hGc := hG2.cut
  have hcl : (A2.map fun os => os.take 3).length ≤ 5 := by rw [List.length_map]; exact h52
  have hA5 : ArIn H5 (A2.map fun os => os.take 3) (.ref b2) := ⟨b2, zs, rfl, k5, hzs.mono fun o x => PosIn.tp (Tp.same s5)⟩
  generalize (A2.map fun os => os.take 3) = A0 at hGc hcl hA5 hzs
  have g5 : Go d H2 H5 := g3.trans (Go.same g3.dr (s4.trans s5))
  have hzl := hzs.1
  refine ⟨_, rfl, _, rfl, d, _, A0, 7, rfl, g5.dr, hA5, by omega, fun kp Kp H6 g6 kkp hKp => ?_⟩
  have hA6 := hA5.tp (g6.tp g5.dr)
  refine ⟨_, rfl, _, rfl, d, _, A0, 5, rfl, g6.dr, hA6, by omega, fun sp st H7 g7 ksp hst => ?_⟩
  refine ⟨_, rfl, d, 5, rfl, g7.dr, by decide, fun kd H8 g8 kd0 kd1 => ?_⟩
  refine ⟨_, rfl, d, 3, rfl, g8.dr, by decide, fun u H9 g9 u0 u1 => ⟨_, _, rfl, rfl, ?_⟩⟩
  have t79 : Tp H7 H9 := (g8.trans g9).tp g7.dr
  have hA9 := (hA6.tp (g7.tp g6.dr)).tp t79
  have e29 := t79 _ _ (g7.tp g6.dr _ _ (g6.tp g5.dr _ _ k5))
  have kkp9 := t79 _ _ (g7.tp g6.dr _ _ kkp)
  have ksp9 := t79 _ _ ksp
  have hT9 : GxR.TabG H9 Pt := ((g6.trans g7).trans (g8.trans g9)).tab g5.dr (g5.tab g2.dr hT2)
  dsimp only
  generalize htn : (1 : Int) + u = tn
  have hnn : ((zs.length : Nat) : Int).toNat = A0.length := by omega
  refine ⟨_, rfl, b2, _, rfl, .inr (sqt e29), _, rfl, by omega, by omega, fun D2 hD2 => ?_⟩
  refine lc_range (lo := 0) (n := ((zs.length : Nat) : Int).toNat) (fun (i : Nat) (H' : Hp) => Same H9 H' ∧ H' D2 = some (.lst (((List.range i).map fun k : Nat => (0 + (k : Int)) * kd % tn).map V.int))) ?_ ?_ ?_
  · exact ⟨same_new hD2 _, upd_same⟩
  · rintro i H10 hi ⟨s10, k10⟩
    have hsm : -(2 ^ 64 : Int) < kd ∧ kd < 2 ^ 64 := by omega
    refine ⟨rfl, yes_if ?_⟩
    refine ⟨_, rfl, _, rfl, _, _, rfl, rfl, .inr hsm, .inl ⟨_, rfl, ?_⟩⟩
    refine ⟨_, rfl, _, _, rfl, rfl, by show (0 : Int) < tn; omega, _, k10, big' (by rw [List.length_map, List.length_map, List.length_range]; omega), same_put s10 hD2, ?_⟩
    rw [upd_same, List.range_succ, List.map_append, List.map_append]
    rfl
  rintro H10 ⟨s10, k10⟩
  rw [hnn] at k10
  refine ⟨D2, _, rfl, .inl ⟨sqd k10, fun rp hrp => ?_⟩⟩
  generalize hRp : (List.range A0.length).map (fun k : Nat => (0 + (k : Int)) * kd % tn) = Rp at k10
  obtain ⟨H11, e11, s11, krp⟩ := newH hrp (.tup (Rp.map V.int))
  rw [e11]
  have hRl : Rp.length = A0.length := by rw [← hRp, List.length_map, List.length_range]
  have h3 : R3 (rdF Rp) (A0.length : Int) := fun p p0 p1 => by
    rw [← hRp, rdF_map (f := fun x => x * kd % tn) p0 p1]
    have h1 := Int.emod_nonneg (p * kd) (show tn ≠ 0 by omega)
    have h2 := Int.emod_lt_of_pos (p * kd) (show 0 < tn by omega)
    show 0 ≤ p * kd % tn ∧ p * kd % tn ≤ 2
    omega
  have s9B := s10.trans s11
  refine ⟨Nat.le_of_ble_eq_true rfl, fun ml hml => ?_⟩
  obtain ⟨H12, e12, s12, k12⟩ := newH hml (.lst (([1, 2, 4, 8, 16, 32] : List Int).map V.int))
  rw [show upd H11 ml (.lst [V.int 1, V.int 2, V.int 4, V.int 8, V.int 16, V.int 32]) = H12 from e12]
  have s9C := s9B.trans s12
  obtain ⟨hat, ht1, ht32⟩ := top_at hcl
  have hat : atI (([1, 2, 4, 8, 16, 32] : List Int).map V.int) ((zs.length : Nat) : Int) = some (.int (top5 A0.length)) := by rw [hzl]; exact hat
  refine ⟨_, rfl, b2, _, rfl, .inr (sqt (s9C _ _ e29)), ml, _, _, _, rfl, rfl, sqd k12, hat, ?_⟩
  refine ⟨1, top5 A0.length, rfl, by omega, fun D3 hD3 => ?_⟩
  refine lc_range (lo := 1) (n := (top5 A0.length - 1).toNat) (fun (i : Nat) (H' : Hp) => Same H12 H' ∧ H' D3 = some (.lst (((List.range i).map fun k : Nat => (1 : Int) + (k : Int)).map V.int))) ?_ ?_ ?_
  · exact ⟨same_new hD3 _, upd_same⟩
  · rintro i H13 hi ⟨s13, k13⟩
    refine ⟨rfl, yes_if ?_⟩
    refine ⟨_, rfl, _, k13, big' (by rw [List.length_map, List.length_map, List.length_range]; omega), same_put s13 hD3, ?_⟩
    rw [upd_same, List.range_succ, List.map_append, List.map_append]
    rfl
  rintro H13 ⟨s13, k13⟩
  have hL0 : ∀ m, m ∈ (List.range (top5 A0.length - 1).toNat).map (fun k : Nat => (1 : Int) + (k : Int)) ↔ 1 ≤ m ∧ m < top5 A0.length := fun m => by
    constructor
    · intro h
      obtain ⟨k, hk, e⟩ := List.mem_map.mp h
      have := List.mem_range.mp hk
      omega
    · rintro ⟨h1, h2⟩
      exact List.mem_map.mpr ⟨(m - 1).toNat, List.mem_range.mpr (by omega), by omega⟩
  have hL0l : ((List.range (top5 A0.length - 1).toNat).map (fun k : Nat => (1 : Int) + (k : Int))).length ≤ 31 := by
    rw [List.length_map, List.length_range]
    omega
  generalize (List.range (top5 A0.length - 1).toNat).map (fun k : Nat => (1 : Int) + (k : Int)) = L0 at k13 hL0 hL0l
  have s9D := s9C.trans s13
  refine ⟨_, rfl, D3, rfl, ⟨_, sqd k13⟩, fun D4 hD4 => ?_⟩
  refine lc_list (K := K) (a := D3) (xs := L0.map V.int) (fun (t : Nat) (H' : Hp) => Same H13 H' ∧ H' D4 = some (.lst (((L0.take t).filter fun m => decide (∀ p ∈ setM A0.length m, p ∈ Kp)).map V.int))) ?_ ?_ ?_ ?_
  · exact ⟨same_new hD4 _, upd_same⟩
  · rintro t H' _ ⟨s, _⟩
    exact sqd (s _ _ k13)
  · rintro t x H14 hx ⟨s14, k14⟩
    rw [List.getElem?_map] at hx
    obtain ⟨m, hm, rfl⟩ := Option.map_eq_some_iff.mp hx
    obtain ⟨m1, mt⟩ := (hL0 m).mp (List.mem_of_getElem? hm)
    have hfl := List.length_filter_le (fun m => decide (∀ p ∈ setM A0.length m, p ∈ Kp)) (L0.take t)
    rw [List.length_take] at hfl
    have hnx : (L0.take (t + 1)).filter (fun m => decide (∀ p ∈ setM A0.length m, p ∈ Kp)) = (L0.take t).filter (fun m => decide (∀ p ∈ setM A0.length m, p ∈ Kp)) ++ if decide (∀ p ∈ setM A0.length m, p ∈ Kp) = true then [m] else [] := by
      rw [List.take_add_one, hm, List.filter_append]
      congr 1
      show List.filter _ [m] = _
      simp only [List.filter_cons, List.filter_nil]
    have s9E := s9D.trans s14
    refine ⟨rfl, ?_⟩
    refine ⟨_, rfl, _, rfl, .ref b2, A0, m, rfl, hA9.tp (Tp.same s9E), hcl, by omega, by omega, fun kl H15 s15 kkl => ?_⟩
    have hXl : (setM A0.length m).length ≤ 5 := by
      have := asc_short (lo := 0) (hi := (A0.length : Int)) (asc_setM _ m) (fun x hx => mem_setM hx) (by omega)
      omega
    refine ⟨kl, rfl, ⟨_, sqd kkl⟩, fun D5 hD5 => ?_⟩
    refine lc_list (K := K) (a := kl) (xs := (setM A0.length m).map V.int) (fun (t : Nat) (H' : Hp) => Same H15 H' ∧ ∃ zs : List Int, H' D5 = some (.lst (zs.map V.int)) ∧ zs.length ≤ t ∧ (zs = [] ↔ ∀ x ∈ (setM A0.length m).take t, x ∈ Kp)) ?_ ?_ ?_ ?_
    · exact ⟨same_new hD5 _, [], upd_same, Nat.le_refl _, ⟨fun _ x hx => by rw [List.take_zero] at hx; exact (nomatch hx), fun _ => rfl⟩⟩
    · rintro t H' _ ⟨s, _⟩
      exact sqd (s _ _ kkl)
    · rintro t x H16 hx ⟨s16, zs, k16, hzl, hzs⟩
      rw [List.getElem?_map] at hx
      obtain ⟨p, hp, rfl⟩ := Option.map_eq_some_iff.mp hx
      have htl := (List.getElem?_eq_some_iff.mp hp).1
      have htk : (setM A0.length m).take (t + 1) = (setM A0.length m).take t ++ [p] := by rw [List.take_add_one, hp]; rfl
      refine ⟨rfl, ?_⟩
      have hkp16 := (s9E.trans (s15.trans s16)) _ _ kkp9
      refine ⟨_, rfl, _, rfl, kp, _, rfl, .inr (sqt hkp16), rfl, flat_ints' _, _, rfl, ?_⟩
      rw [notIn_int]
      by_cases h2 : p ∈ Kp
      · rw [decide_eq_true h2]
        refine ifF rfl ⟨s16, zs, k16, by omega, ?_⟩
        rw [hzs, htk]
        constructor
        · intro h x hx
          rcases List.mem_append.mp hx with hx | hx
          · exact h x hx
          · rw [List.mem_singleton.mp hx]
            exact h2
        · exact fun h x hx => h x (List.mem_append_left _ hx)
      · rw [decide_eq_false h2]
        refine ifT rfl ⟨_, rfl, _, k16, big' (by rw [List.length_map]; omega), same_put s16 hD5, zs ++ [p], by rw [upd_same, List.map_append]; rfl, by rw [List.length_append]; exact Nat.add_le_add_right hzl 1, ?_⟩
        constructor
        · intro e
          simp at e
        · intro h3
          exact absurd (h3 p (by rw [htk]; simp)) h2
    rintro H16 ⟨s16, zs, k16, hzl, hzs⟩
    rw [List.length_map, List.take_length] at hzs
    have s14G := s15.trans s16
    refine ⟨D5, _, rfl, .inl (sqd k16), rfl, _, rfl, ?_⟩
    rw [List.length_map]
    have k14G := s14G _ _ k14
    by_cases hz : zs = []
    · subst hz
      refine ifT rfl ⟨_, rfl, _, k14G, big' (by rw [List.length_map]; omega), same_put (s14.trans s14G) hD4, ?_⟩
      rw [upd_same, hnx, if_pos (decide_eq_true (hzs.mp rfl)), List.map_append]
      rfl
    · have hpos := List.length_pos_iff.mpr hz
      refine ifF (decide_eq_false fun e => by have := V.int.inj e; omega) ⟨s14.trans s14G, ?_⟩
      rw [hnx, if_neg (fun h => hz (hzs.mpr (of_decide_eq_true h))), List.append_nil]
      exact k14G
  rintro H14 ⟨s14, k14⟩
  rw [List.length_map, List.take_length] at k14
  have s9E := s9D.trans s14
  have hLI : LInv A0 (rdF Rp) Kp (L0.filter fun m => decide (∀ p ∈ setM A0.length m, p ∈ Kp)) := by
    refine ⟨fun m hm => (hL0 m).mp (List.mem_filter.mp hm).1, fun m hm => of_decide_eq_true (List.mem_filter.mp hm).2, fun g hg => ?_⟩
    obtain ⟨hks, hkp, _⟩ := win_z A0 (rdF Rp) Kp g hg
    refine List.mem_filter.mpr ⟨(hL0 _).mpr ⟨?_, mask_top hcl hks.asc hks.mem⟩, decide_eq_true ?_⟩
    · have := (mask_pos hks.asc fun x hx => by have := hks.mem x hx; omega).2.2.mpr hks.ne
      omega
    · rw [set_mask hcl hks.asc hks.mem]
      exact hkp
  have hLl : (L0.filter fun m => decide (∀ p ∈ setM A0.length m, p ∈ Kp)).length ≤ 31 := Nat.le_trans (List.length_filter_le _ _) hL0l
  generalize L0.filter (fun m => decide (∀ p ∈ setM A0.length m, p ∈ Kp)) = L1 at k14 hLI hLl
  refine ⟨33, rfl, by decide, by decide, gx_forBrk (lo := 0) (n := (33 : Int).toNat) (fun (j : Nat) (σ : L2.St) (H' : Hp) => ∃ (ll : Addr) (L : List Int) (y9 y13 : Option V), σ = [some (.ref a), some (.ref d), some (.ref b2), y3, some (.ref kp), some (.ref sp), some (.int kd), some (.int tn), some (.ref rp), y9, some (.ref ll), y11, y12, y13, y14, y15] ∧ Same H9 H' ∧ H' rp = some (.tup (Rp.map V.int)) ∧ H' ll = some (.lst (L.map V.int)) ∧ LInv A0 (rdF Rp) Kp L ∧ L.length + j ≤ 31)
    (fun (σ : L2.St) (H' : Hp) => ∃ (ll : Addr) (L : List Int) (y9 y13 : Option V), σ = [some (.ref a), some (.ref d), some (.ref b2), y3, some (.ref kp), some (.ref sp), some (.int kd), some (.int tn), some (.ref rp), y9, some (.ref ll), y11, y12, y13, y14, y15] ∧ Same H9 H' ∧ H' rp = some (.tup (Rp.map V.int)) ∧ H' ll = some (.lst (L.map V.int)) ∧ L.length ≤ 31 ∧ LInv A0 (rdF Rp) Kp L ∧ ∀ m ∈ L, isLeft A0 (rdF Rp) L m) ?_ (fun done => ?_) ?_ ?_⟩
  · exact ⟨D4, L1, _, _, rfl, s9E, s14 _ _ (s13 _ _ (s12 _ _ krp)), k14, hLI, hLl⟩
  · rintro j σ H15 hj ⟨ll, L, y9, y13, rfl, s15, krp15, kll, hI, hlen⟩
    obtain ⟨f, hf⟩ : ∃ f : Int → Bool, ∀ m, f m = true ↔ isLeft A0 (rdF Rp) L m := ⟨fun m => @decide (isLeft A0 (rdF Rp) L m) (Classical.propDecidable _), fun m => ⟨fun h => @of_decide_eq_true _ (Classical.propDecidable _) h, fun h => @decide_eq_true _ (Classical.propDecidable _) h⟩⟩
    refine ⟨_, rfl, ll, rfl, ⟨_, sqd kll⟩, fun D6 hD6 => ?_⟩
    refine lc_list (K := K) (a := ll) (xs := L.map V.int) (fun (t : Nat) (H' : Hp) => Same H15 H' ∧ H' D6 = some (.lst (((L.take t).filter f).map V.int))) ?_ ?_ ?_ ?_
    · exact ⟨same_new hD6 _, upd_same⟩
    · rintro t H' _ ⟨s, _⟩
      exact sqd (s _ _ kll)
    · rintro t x H16 hx ⟨s16, k16⟩
      rw [List.getElem?_map] at hx
      obtain ⟨m, hm, rfl⟩ := Option.map_eq_some_iff.mp hx
      obtain ⟨m1, mt⟩ := hI.rng m (List.mem_of_getElem? hm)
      have hfl := List.length_filter_le f (L.take t)
      rw [List.length_take] at hfl
      have hnx : (L.take (t + 1)).filter f = (L.take t).filter f ++ if f m = true then [m] else [] := by
        rw [List.take_add_one, hm, List.filter_append]
        congr 1
        show List.filter _ [m] = _
        simp only [List.filter_cons, List.filter_nil]
      refine ⟨rfl, ?_⟩
      refine ⟨_, rfl, _, rfl, _, rfl, _, rfl, .ref b2, rp, ll, A0, Rp, L, m, rfl, hA9.tp (Tp.same (s15.trans s16)), hGc, hcl, s16 _ _ krp15, hRl, s16 _ _ kll, by omega, by omega, setM_ne hcl m1 mt, fun b H17 s17 hb => ?_⟩
      have s16G := s16.trans s17
      have k16G := s17 _ _ k16
      refine ⟨b, rfl, ?_⟩
      by_cases hfm : f m = true
      · refine ifT (hb.mpr ((hf m).mp hfm)) ⟨_, rfl, _, k16G, big' (by rw [List.length_map]; omega), same_put s16G hD6, ?_⟩
        rw [upd_same, hnx, if_pos hfm, List.map_append]
        rfl
      · refine ifF (Bool.eq_false_iff.mpr fun h => hfm ((hf m).mpr (hb.mp h))) ⟨s16G, ?_⟩
        rw [hnx, if_neg hfm, List.append_nil]
        exact k16G
    rintro H16 ⟨s16, k16⟩
    rw [List.length_map, List.take_length] at k16
    refine ⟨_, rfl, _, rfl, .list ((L.filter f).map PyData.int), .list (L.map PyData.int), .lst (sqd k16) (dp_intsR _), .lst (sqd (s16 _ _ kll)) (dp_intsR _), shaped_I _, shaped_I _, _, rfl, ?_⟩
    rw [eqv_I]
    by_cases heq : L.filter f = L
    · refine ifT (decide_eq_true heq) ?_
      refine done _ _ ⟨ll, L, _, _, rfl, s15.trans s16, s16 _ _ krp15, s16 _ _ kll, by omega, hI, fun m hm => (hf m).mp ?_⟩
      rw [← heq] at hm
      exact (List.mem_filter.mp hm).2
    · have hlt : (L.filter f).length < L.length := Nat.lt_of_le_of_ne (List.length_filter_le f L) fun e => heq (List.filter_sublist.eq_of_length e)
      refine ifF (decide_eq_false heq) ⟨_, rfl, D6, L.filter f, _, _, rfl, s15.trans s16, s16 _ _ krp15, k16, ?_, by omega⟩
      exact ⟨fun m hm => hI.rng m (List.mem_filter.mp hm).1, fun m hm => hI.kp m (List.mem_filter.mp hm).1, fun g hg => List.mem_filter.mpr ⟨hI.win g hg, (hf _).mpr (win_left hGc hcl h3 hI.win g hg)⟩⟩
  · rintro σ H15 ⟨ll, L, y9, y13, rfl, s15, krp15, kll, hI, hlen⟩
    have h33 : (33 : Int).toNat = 33 := rfl
    omega
  rintro σ H15 ⟨ll, L, y9, y13, rfl, s15, krp15, kll, hL31, hI, hfin⟩
  have hstR : ∀ p ∈ st, 0 ≤ p ∧ p < (A0.length : Int) := hst.mem
  have hstl : st.length ≤ 5 := by
    have := asc_short (lo := 0) (hi := (A0.length : Int)) hst.asc (fun x hx => hstR x hx) (by omega)
    omega
  have hall := all_left hGc hcl h3 hst.asc hstR hI hfin
  refine ⟨Nat.le_of_ble_eq_true rfl, fun rl hrl => ?_⟩
  obtain ⟨H16, e16, s16, k16⟩ := newH hrl (.lst (([0, 1, 2] : List Int).map V.int))
  rw [show upd H15 rl (.lst [V.int 0, V.int 1, V.int 2]) = H16 from e16]
  refine ⟨rl, rfl, ⟨_, sqd k16⟩, ?_⟩
  refine for_list (K := K) (a := rl) (xs := ([0, 1, 2] : List Int).map V.int) (fun (t : Nat) (σ : L2.St) (H' : Hp) => ∃ (b : Bool) (y11 y15 : Option V), σ = [some (.ref a), some (.ref d), some (.ref b2), y3, some (.ref kp), some (.ref sp), some (.int kd), some (.int tn), some (.ref rp), y9, some (.ref ll), y11, y12, y13, some (.bl b), y15] ∧ Same H16 H' ∧ (b = true ↔ ∀ r ∈ ([0, 1, 2] : List Int).take t, 0 < maskS (fltR (rdF Rp) st r) → maskS (fltR (rdF Rp) st r) ∈ L)) ?_ ?_ ?_ ?_
  · exact ⟨true, _, _, rfl, Same.refl _, ⟨fun _ r hr => by rw [List.take_zero] at hr; exact (nomatch hr), fun _ => rfl⟩⟩
  · rintro t σ H' _ ⟨b, y11, y15, rfl, s, _⟩
    exact sqd (s _ _ k16)
  · rintro t x σ H17 hx ⟨b, y11, y15, rfl, s17, hb⟩
    rw [List.getElem?_map] at hx
    obtain ⟨r, hr3, rfl⟩ := Option.map_eq_some_iff.mp hx
    have htk : ([0, 1, 2] : List Int).take (t + 1) = ([0, 1, 2] : List Int).take t ++ [r] := by rw [List.take_add_one, hr3]; rfl
    have s9H := s15.trans (s16.trans s17)
    refine ⟨_, rfl, sp, rfl, ⟨_, sqt (s9H _ _ ksp9)⟩, fun D hD => ?_⟩
    refine lc_tup (K := K) (a := sp) (xs := st.map V.int) (fun (t : Nat) (H' : Hp) => Same H17 H' ∧ H' D = some (.lst ((fltR (rdF Rp) (st.take t) r).map V.int))) ?_ ?_ ?_ ?_
    · exact ⟨same_new hD _, upd_same⟩
    · rintro t H' _ ⟨s, _⟩
      exact sqt (s _ _ (s9H _ _ ksp9))
    · rintro t x H18 hx ⟨s18, k18⟩
      rw [List.getElem?_map] at hx
      obtain ⟨p, hp, rfl⟩ := Option.map_eq_some_iff.mp hx
      obtain ⟨p0, p1⟩ := hstR p (List.mem_of_getElem? hp)
      have hfl : (fltR (rdF Rp) (st.take t) r).length ≤ 5 := by
        have := List.length_filter_le (fun p => decide (rdF Rp p = r)) (st.take t)
        rw [List.length_take] at this
        show (List.filter _ _).length ≤ 5
        omega
      have hnx : fltR (rdF Rp) (st.take (t + 1)) r = fltR (rdF Rp) (st.take t) r ++ if rdF Rp p = r then [p] else [] := by
        unfold fltR
        rw [List.take_add_one, hp]
        exact gr_filter
      refine ⟨rfl, ?_⟩
      refine ⟨_, rfl, _, rfl, rp, _, _, _, rfl, rfl, sqt ((s16.trans (s17.trans s18)) _ _ krp15), rdF_at p0 (by omega), _, rfl, rfl, _, rfl, ?_⟩
      by_cases h : rdF Rp p = r
      · refine ifT (decide_eq_true (by rw [h])) ?_
        refine ⟨_, rfl, _, k18, big' (by rw [List.length_map]; omega), same_put s18 hD, ?_⟩
        rw [upd_same, hnx, if_pos h, List.map_append]
        rfl
      · refine ifF (decide_eq_false (fun e => h (V.int.inj e))) ⟨s18, ?_⟩
        rw [hnx, if_neg h, List.append_nil]
        exact k18
    rintro H18 ⟨s18, k18⟩
    rw [List.length_map, List.take_length] at k18
    refine ⟨D, _, rfl, k18, ?_, fun p hp => by have := hstR p (List.mem_filter.mp hp).1; omega, fun H19 s19 => ?_⟩
    · have := List.length_filter_le (fun p => decide (rdF Rp p = r)) st
      show (List.filter _ _).length ≤ 60
      omega
    have s17J := s18.trans s19
    have stay : (0 < maskS (fltR (rdF Rp) st r) → maskS (fltR (rdF Rp) st r) ∈ L) → (b = true ↔ ∀ r ∈ ([0, 1, 2] : List Int).take (t + 1), 0 < maskS (fltR (rdF Rp) st r) → maskS (fltR (rdF Rp) st r) ∈ L) := fun hpL => by
      rw [hb, htk]
      constructor
      · intro h x hx
        rcases List.mem_append.mp hx with hx | hx
        · exact h x hx
        · rw [List.mem_singleton.mp hx]
          exact hpL
      · exact fun h x hx => h x (List.mem_append_left _ hx)
    refine ⟨_, rfl, _, _, rfl, rfl, _, rfl, ?_⟩
    by_cases h1 : 0 < maskS (fltR (rdF Rp) st r)
    · refine ifT (decide_eq_true h1) ?_
      have hll := (s16.trans (s17.trans s17J)) _ _ kll
      refine ⟨_, rfl, _, rfl, ll, _, rfl, .inl (sqd hll), rfl, flat_ints' _, _, rfl, ?_⟩
      rw [notIn_int]
      by_cases h2 : maskS (fltR (rdF Rp) st r) ∈ L
      · rw [decide_eq_true h2]
        exact ifF rfl ⟨b, _, _, rfl, s17.trans s17J, stay fun _ => h2⟩
      · rw [decide_eq_false h2]
        refine ifT rfl ⟨false, _, _, rfl, s17.trans s17J, fun e => (Bool.false_ne_true e).elim, fun h3 => ?_⟩
        exact absurd (h3 r (by rw [htk]; simp) h1) h2
    · exact ifF (decide_eq_false h1) (iteF ⟨b, _, _, rfl, s17.trans s17J, stay fun h => absurd h h1⟩)
  rintro σ H17 ⟨due, y11', y15', rfl, s17, hdue⟩
  have hdue : due = true ↔ ∀ r ∈ ([0, 1, 2] : List Int), 0 < maskS (fltR (rdF Rp) st r) → maskS (fltR (rdF Rp) st r) ∈ L := hdue
  rw [hall] at hdue
  have s9H := s15.trans (s16.trans s17)
  have hfew : Few (rdF Rp) (A0.length : Int) := few_of (near_small _ (Nat.le_trans hcl (by decide : 5 ≤ 6))) (by have := Nat.mul_le_mul_right (2 ^ 5) hcl; omega)
  refine ⟨_, rfl, _, rfl, _, rfl, _, rfl, .ref b2, kp, rp, sp, A0, Kp, Rp, st, rfl, hA9.tp (Tp.same s9H), hGc, by omega, s9H _ _ kkp9, (s16.trans s17) _ _ krp15, hRl, s9H _ _ ksp9, hst.asc, hstR, few_k hGc hst.asc hstR hfew, TabG.same hT9 s9H, fun F S b HG sG hkn hb => ?_⟩
  rw [knw_win hGc (by omega) hst.asc hstR hfew hkn] at hb
  exact ⟨_, rfl, b, due, rfl, Bool.eq_iff_iff.mpr (hb.trans hdue.symm), q _⟩
end
end NL

namespace NL
open PySem PySem.Spec PyProof.Rows L2
theorem all_mk {l : PySem.W.OpenLaw} {w : World} {K : PySem.W.Frag} {h : Heap} {mg : Str → Option Value} {fa fforces f_all_marked f_some_marked fsteps_to fstay_ranks f_ranks_to fknown_arena f_successors_of f_parted fcan_know f_law_draws f_law_take f_law_great f_law_arena f_law_some f_law_is_truth f_law_set f_law_mask f_law_is_left flaw : Addr} (X : K.In h) (G : h.Ns mainGlobals mg) (hfa : mg "law" = some (.ref fa)) (own : ∀ f, mg "forces" = some (.ref f) → LamX.OwnTab K f h)
    {odforces anforces : Option Addr} {slforces : Array (Option Value)} {ocforces kVforces dcforces pmforces cdforces ctforces : Value}
    {od_all_marked an_all_marked : Option Addr} {sl_all_marked : Array (Option Value)} {oc_all_marked kV_all_marked dc_all_marked pm_all_marked cd_all_marked ct_all_marked : Value}
    {od_some_marked an_some_marked : Option Addr} {sl_some_marked : Array (Option Value)} {oc_some_marked kV_some_marked dc_some_marked pm_some_marked cd_some_marked ct_some_marked : Value}
    {odsteps_to ansteps_to : Option Addr} {slsteps_to : Array (Option Value)} {ocsteps_to kVsteps_to dcsteps_to pmsteps_to cdsteps_to ctsteps_to : Value}
    {odstay_ranks anstay_ranks : Option Addr} {slstay_ranks : Array (Option Value)} {ocstay_ranks kVstay_ranks dcstay_ranks pmstay_ranks cdstay_ranks ctstay_ranks : Value}
    {od_ranks_to an_ranks_to : Option Addr} {sl_ranks_to : Array (Option Value)} {oc_ranks_to kV_ranks_to dc_ranks_to pm_ranks_to cd_ranks_to ct_ranks_to : Value}
    {odknown_arena anknown_arena : Option Addr} {slknown_arena : Array (Option Value)} {ocknown_arena kVknown_arena dcknown_arena pmknown_arena cdknown_arena ctknown_arena : Value}
    {od_successors_of an_successors_of : Option Addr} {sl_successors_of : Array (Option Value)} {oc_successors_of kV_successors_of dc_successors_of pm_successors_of cd_successors_of ct_successors_of : Value}
    {od_parted an_parted : Option Addr} {sl_parted : Array (Option Value)} {oc_parted kV_parted dc_parted pm_parted cd_parted ct_parted : Value}
    {odcan_know ancan_know : Option Addr} {slcan_know : Array (Option Value)} {occan_know kVcan_know dccan_know pmcan_know cdcan_know ctcan_know : Value}
    {od_law_draws an_law_draws : Option Addr} {sl_law_draws : Array (Option Value)} {oc_law_draws kV_law_draws dc_law_draws pm_law_draws cd_law_draws ct_law_draws : Value}
    {od_law_take an_law_take : Option Addr} {sl_law_take : Array (Option Value)} {oc_law_take kV_law_take dc_law_take pm_law_take cd_law_take ct_law_take : Value}
    {od_law_great an_law_great : Option Addr} {sl_law_great : Array (Option Value)} {oc_law_great kV_law_great dc_law_great pm_law_great cd_law_great ct_law_great : Value}
    {od_law_arena an_law_arena : Option Addr} {sl_law_arena : Array (Option Value)} {oc_law_arena kV_law_arena dc_law_arena pm_law_arena cd_law_arena ct_law_arena : Value}
    {od_law_some an_law_some : Option Addr} {sl_law_some : Array (Option Value)} {oc_law_some kV_law_some dc_law_some pm_law_some cd_law_some ct_law_some : Value}
    {od_law_is_truth an_law_is_truth : Option Addr} {sl_law_is_truth : Array (Option Value)} {oc_law_is_truth kV_law_is_truth dc_law_is_truth pm_law_is_truth cd_law_is_truth ct_law_is_truth : Value}
    {od_law_set an_law_set : Option Addr} {sl_law_set : Array (Option Value)} {oc_law_set kV_law_set dc_law_set pm_law_set cd_law_set ct_law_set : Value}
    {od_law_mask an_law_mask : Option Addr} {sl_law_mask : Array (Option Value)} {oc_law_mask kV_law_mask dc_law_mask pm_law_mask cd_law_mask ct_law_mask : Value}
    {od_law_is_left an_law_is_left : Option Addr} {sl_law_is_left : Array (Option Value)} {oc_law_is_left kV_law_is_left dc_law_is_left pm_law_is_left cd_law_is_left ct_law_is_left : Value}
    {odlaw anlaw : Option Addr} {sllaw : Array (Option Value)} {oclaw kVlaw dclaw pmlaw cdlaw ctlaw : Value}
    {u_CONTROLLER : Value}
    {u_DISTURBANCE : Value}
    {cF PF : Addr} {odF : Option Addr} {vsF : Array Value} {slF : Array (Option Value)} {xFile : Str} {xFlags xText : Int} {xIn : Bool} {xt1 xt2 xt3 : Tok}
    (aforces : PySem.W.nsIn K mainGlobals "forces" = some (some (.ref fforces))) (lforces : K.lookup fforces = some ⟨ocforces, odforces, .func (PySem.W.fnOf "forces" "forces" (defArgs sforces) (defBody sforces) (defScope sforces) .none kVforces dcforces pmforces anforces cdforces ctforces), slforces⟩) (cforces : PySem.W.codeIn K cdforces "forces" = true) (kforces : PySem.W.keepIn K (.ref fforces) = true)
    (a_all_marked : PySem.W.nsIn K mainGlobals "_all_marked" = some (some (.ref f_all_marked))) (l_all_marked : K.lookup f_all_marked = some ⟨oc_all_marked, od_all_marked, .func (PySem.W.fnOf "_all_marked" "_all_marked" (defArgs s_all_marked) (defBody s_all_marked) (defScope s_all_marked) .none kV_all_marked dc_all_marked pm_all_marked an_all_marked cd_all_marked ct_all_marked), sl_all_marked⟩) (c_all_marked : PySem.W.codeIn K cd_all_marked "_all_marked" = true) (k_all_marked : PySem.W.keepIn K (.ref f_all_marked) = true)
    (a_some_marked : PySem.W.nsIn K mainGlobals "_some_marked" = some (some (.ref f_some_marked))) (l_some_marked : K.lookup f_some_marked = some ⟨oc_some_marked, od_some_marked, .func (PySem.W.fnOf "_some_marked" "_some_marked" (defArgs s_some_marked) (defBody s_some_marked) (defScope s_some_marked) .none kV_some_marked dc_some_marked pm_some_marked an_some_marked cd_some_marked ct_some_marked), sl_some_marked⟩) (c_some_marked : PySem.W.codeIn K cd_some_marked "_some_marked" = true) (k_some_marked : PySem.W.keepIn K (.ref f_some_marked) = true)
    (asteps_to : PySem.W.nsIn K mainGlobals "steps_to" = some (some (.ref fsteps_to))) (lsteps_to : K.lookup fsteps_to = some ⟨ocsteps_to, odsteps_to, .func (PySem.W.fnOf "steps_to" "steps_to" (defArgs ssteps_to) (defBody ssteps_to) (defScope ssteps_to) .none kVsteps_to dcsteps_to pmsteps_to ansteps_to cdsteps_to ctsteps_to), slsteps_to⟩) (csteps_to : PySem.W.codeIn K cdsteps_to "steps_to" = true) (ksteps_to : PySem.W.keepIn K (.ref fsteps_to) = true)
    (astay_ranks : PySem.W.nsIn K mainGlobals "stay_ranks" = some (some (.ref fstay_ranks))) (lstay_ranks : K.lookup fstay_ranks = some ⟨ocstay_ranks, odstay_ranks, .func (PySem.W.fnOf "stay_ranks" "stay_ranks" (defArgs sstay_ranks) (defBody sstay_ranks) (defScope sstay_ranks) .none kVstay_ranks dcstay_ranks pmstay_ranks anstay_ranks cdstay_ranks ctstay_ranks), slstay_ranks⟩) (cstay_ranks : PySem.W.codeIn K cdstay_ranks "stay_ranks" = true) (kstay_ranks : PySem.W.keepIn K (.ref fstay_ranks) = true)
    (a_ranks_to : PySem.W.nsIn K mainGlobals "_ranks_to" = some (some (.ref f_ranks_to))) (l_ranks_to : K.lookup f_ranks_to = some ⟨oc_ranks_to, od_ranks_to, .func (PySem.W.fnOf "_ranks_to" "_ranks_to" (defArgs s_ranks_to) (defBody s_ranks_to) (defScope s_ranks_to) .none kV_ranks_to dc_ranks_to pm_ranks_to an_ranks_to cd_ranks_to ct_ranks_to), sl_ranks_to⟩) (c_ranks_to : PySem.W.codeIn K cd_ranks_to "_ranks_to" = true) (k_ranks_to : PySem.W.keepIn K (.ref f_ranks_to) = true)
    (aknown_arena : PySem.W.nsIn K mainGlobals "known_arena" = some (some (.ref fknown_arena))) (lknown_arena : K.lookup fknown_arena = some ⟨ocknown_arena, odknown_arena, .func (PySem.W.fnOf "known_arena" "known_arena" (defArgs sknown_arena) (defBody sknown_arena) (defScope sknown_arena) .none kVknown_arena dcknown_arena pmknown_arena anknown_arena cdknown_arena ctknown_arena), slknown_arena⟩) (cknown_arena : PySem.W.codeIn K cdknown_arena "known_arena" = true) (kknown_arena : PySem.W.keepIn K (.ref fknown_arena) = true)
    (a_successors_of : PySem.W.nsIn K mainGlobals "_successors_of" = some (some (.ref f_successors_of))) (l_successors_of : K.lookup f_successors_of = some ⟨oc_successors_of, od_successors_of, .func (PySem.W.fnOf "_successors_of" "_successors_of" (defArgs s_successors_of) (defBody s_successors_of) (defScope s_successors_of) .none kV_successors_of dc_successors_of pm_successors_of an_successors_of cd_successors_of ct_successors_of), sl_successors_of⟩) (c_successors_of : PySem.W.codeIn K cd_successors_of "_successors_of" = true) (k_successors_of : PySem.W.keepIn K (.ref f_successors_of) = true)
    (a_parted : PySem.W.nsIn K mainGlobals "_parted" = some (some (.ref f_parted))) (l_parted : K.lookup f_parted = some ⟨oc_parted, od_parted, .func (PySem.W.fnOf "_parted" "_parted" (defArgs s_parted) (defBody s_parted) (defScope s_parted) .none kV_parted dc_parted pm_parted an_parted cd_parted ct_parted), sl_parted⟩) (c_parted : PySem.W.codeIn K cd_parted "_parted" = true) (k_parted : PySem.W.keepIn K (.ref f_parted) = true)
    (acan_know : PySem.W.nsIn K mainGlobals "can_know" = some (some (.ref fcan_know))) (lcan_know : K.lookup fcan_know = some ⟨occan_know, odcan_know, .func (PySem.W.fnOf "can_know" "can_know" (defArgs scan_know) (defBody scan_know) (defScope scan_know) .none kVcan_know dccan_know pmcan_know ancan_know cdcan_know ctcan_know), slcan_know⟩) (ccan_know : PySem.W.codeIn K cdcan_know "can_know" = true) (kcan_know : PySem.W.keepIn K (.ref fcan_know) = true)
    (a_law_draws : PySem.W.nsIn K mainGlobals "_law_draws" = some (some (.ref f_law_draws))) (l_law_draws : K.lookup f_law_draws = some ⟨oc_law_draws, od_law_draws, .func (PySem.W.fnOf "_law_draws" "_law_draws" (defArgs s_law_draws) (defBody s_law_draws) (defScope s_law_draws) .none kV_law_draws dc_law_draws pm_law_draws an_law_draws cd_law_draws ct_law_draws), sl_law_draws⟩) (c_law_draws : PySem.W.codeIn K cd_law_draws "_law_draws" = true) (k_law_draws : PySem.W.keepIn K (.ref f_law_draws) = true)
    (a_law_take : PySem.W.nsIn K mainGlobals "_law_take" = some (some (.ref f_law_take))) (l_law_take : K.lookup f_law_take = some ⟨oc_law_take, od_law_take, .func (PySem.W.fnOf "_law_take" "_law_take" (defArgs s_law_take) (defBody s_law_take) (defScope s_law_take) .none kV_law_take dc_law_take pm_law_take an_law_take cd_law_take ct_law_take), sl_law_take⟩) (c_law_take : PySem.W.codeIn K cd_law_take "_law_take" = true) (k_law_take : PySem.W.keepIn K (.ref f_law_take) = true)
    (a_law_great : PySem.W.nsIn K mainGlobals "_law_great" = some (some (.ref f_law_great))) (l_law_great : K.lookup f_law_great = some ⟨oc_law_great, od_law_great, .func (PySem.W.fnOf "_law_great" "_law_great" (defArgs s_law_great) (defBody s_law_great) (defScope s_law_great) .none kV_law_great dc_law_great pm_law_great an_law_great cd_law_great ct_law_great), sl_law_great⟩) (c_law_great : PySem.W.codeIn K cd_law_great "_law_great" = true) (k_law_great : PySem.W.keepIn K (.ref f_law_great) = true)
    (a_law_arena : PySem.W.nsIn K mainGlobals "_law_arena" = some (some (.ref f_law_arena))) (l_law_arena : K.lookup f_law_arena = some ⟨oc_law_arena, od_law_arena, .func (PySem.W.fnOf "_law_arena" "_law_arena" (defArgs s_law_arena) (defBody s_law_arena) (defScope s_law_arena) .none kV_law_arena dc_law_arena pm_law_arena an_law_arena cd_law_arena ct_law_arena), sl_law_arena⟩) (c_law_arena : PySem.W.codeIn K cd_law_arena "_law_arena" = true) (k_law_arena : PySem.W.keepIn K (.ref f_law_arena) = true)
    (a_law_some : PySem.W.nsIn K mainGlobals "_law_some" = some (some (.ref f_law_some))) (l_law_some : K.lookup f_law_some = some ⟨oc_law_some, od_law_some, .func (PySem.W.fnOf "_law_some" "_law_some" (defArgs s_law_some) (defBody s_law_some) (defScope s_law_some) .none kV_law_some dc_law_some pm_law_some an_law_some cd_law_some ct_law_some), sl_law_some⟩) (c_law_some : PySem.W.codeIn K cd_law_some "_law_some" = true) (k_law_some : PySem.W.keepIn K (.ref f_law_some) = true)
    (a_law_is_truth : PySem.W.nsIn K mainGlobals "_law_is_truth" = some (some (.ref f_law_is_truth))) (l_law_is_truth : K.lookup f_law_is_truth = some ⟨oc_law_is_truth, od_law_is_truth, .func (PySem.W.fnOf "_law_is_truth" "_law_is_truth" (defArgs s_law_is_truth) (defBody s_law_is_truth) (defScope s_law_is_truth) .none kV_law_is_truth dc_law_is_truth pm_law_is_truth an_law_is_truth cd_law_is_truth ct_law_is_truth), sl_law_is_truth⟩) (c_law_is_truth : PySem.W.codeIn K cd_law_is_truth "_law_is_truth" = true) (k_law_is_truth : PySem.W.keepIn K (.ref f_law_is_truth) = true)
    (a_law_set : PySem.W.nsIn K mainGlobals "_law_set" = some (some (.ref f_law_set))) (l_law_set : K.lookup f_law_set = some ⟨oc_law_set, od_law_set, .func (PySem.W.fnOf "_law_set" "_law_set" (defArgs s_law_set) (defBody s_law_set) (defScope s_law_set) .none kV_law_set dc_law_set pm_law_set an_law_set cd_law_set ct_law_set), sl_law_set⟩) (c_law_set : PySem.W.codeIn K cd_law_set "_law_set" = true) (k_law_set : PySem.W.keepIn K (.ref f_law_set) = true)
    (a_law_mask : PySem.W.nsIn K mainGlobals "_law_mask" = some (some (.ref f_law_mask))) (l_law_mask : K.lookup f_law_mask = some ⟨oc_law_mask, od_law_mask, .func (PySem.W.fnOf "_law_mask" "_law_mask" (defArgs s_law_mask) (defBody s_law_mask) (defScope s_law_mask) .none kV_law_mask dc_law_mask pm_law_mask an_law_mask cd_law_mask ct_law_mask), sl_law_mask⟩) (c_law_mask : PySem.W.codeIn K cd_law_mask "_law_mask" = true) (k_law_mask : PySem.W.keepIn K (.ref f_law_mask) = true)
    (a_law_is_left : PySem.W.nsIn K mainGlobals "_law_is_left" = some (some (.ref f_law_is_left))) (l_law_is_left : K.lookup f_law_is_left = some ⟨oc_law_is_left, od_law_is_left, .func (PySem.W.fnOf "_law_is_left" "_law_is_left" (defArgs s_law_is_left) (defBody s_law_is_left) (defScope s_law_is_left) .none kV_law_is_left dc_law_is_left pm_law_is_left an_law_is_left cd_law_is_left ct_law_is_left), sl_law_is_left⟩) (c_law_is_left : PySem.W.codeIn K cd_law_is_left "_law_is_left" = true) (k_law_is_left : PySem.W.keepIn K (.ref f_law_is_left) = true)
    (alaw : PySem.W.nsIn K mainGlobals "law" = some (some (.ref flaw))) (llaw : K.lookup flaw = some ⟨oclaw, odlaw, .func (PySem.W.fnOf "law" "law" (defArgs slaw) (defBody slaw) (defScope slaw) .none kVlaw dclaw pmlaw anlaw cdlaw ctlaw), sllaw⟩) (claw : PySem.W.codeIn K cdlaw "law" = true) (klaw : PySem.W.keepIn K (.ref flaw) = true)
    (g_CONTROLLER : PySem.W.nsIn K mainGlobals "CONTROLLER" = some (some u_CONTROLLER)) (r_CONTROLLER : L2.RelV (.int 0) u_CONTROLLER)
    (g_DISTURBANCE : PySem.W.nsIn K mainGlobals "DISTURBANCE" = some (some u_DISTURBANCE)) (r_DISTURBANCE : L2.RelV (.int 1) u_DISTURBANCE)
    (tF : cdforces = .ref cF) (tL : K.lookup cF = some ⟨.type "code", odF, .fields vsF, slF⟩) (t11 : vsF[11]? = some (.ref PF)) (tN : K.lookup PF = none) (tg11 : vsF.getD 11 .none = .ref PF) (tg18 : vsF.getD 18 .none = .str xFile xt1) (tg7 : vsF.getD 7 .none = .int xFlags xt2) (tg9 : vsF.getD 9 .none = .bool xIn) (tg10 : vsF.getD 10 .none = .int xText xt3) (tne : cF ≠ PF)
    (z_all : PySem.W.nsIn K mainGlobals "all" = some none)
    (z_any : PySem.W.nsIn K mainGlobals "any" = some none)
    (z_bool : PySem.W.nsIn K mainGlobals "bool" = some none)
    (z_enumerate : PySem.W.nsIn K mainGlobals "enumerate" = some none)
    (z_int : PySem.W.nsIn K mainGlobals "int" = some none)
    (z_isinstance : PySem.W.nsIn K mainGlobals "isinstance" = some none)
    (z_len : PySem.W.nsIn K mainGlobals "len" = some none)
    (z_list : PySem.W.nsIn K mainGlobals "list" = some none)
    (z_min : PySem.W.nsIn K mainGlobals "min" = some none)
    (z_range : PySem.W.nsIn K mainGlobals "range" = some none)
    (z_set : PySem.W.nsIn K mainGlobals "set" = some none)
    (z_sorted : PySem.W.nsIn K mainGlobals "sorted" = some none)
    (z_sum : PySem.W.nsIn K mainGlobals "sum" = some none)
    (z_tuple : PySem.W.nsIn K mainGlobals "tuple" = some none)
    : LamX.LawAtS l w K CX0 7 63 "script" mg fa h := by
  have e := hfa.symm.trans (PySem.W.mg_of X G alaw)
  cases e
  let T : Txt K mg := {
    z_all := PySem.W.mg_none_of X G z_all
    z_any := PySem.W.mg_none_of X G z_any
    z_bool := PySem.W.mg_none_of X G z_bool
    z_enumerate := PySem.W.mg_none_of X G z_enumerate
    z_int := PySem.W.mg_none_of X G z_int
    z_isinstance := PySem.W.mg_none_of X G z_isinstance
    z_len := PySem.W.mg_none_of X G z_len
    z_list := PySem.W.mg_none_of X G z_list
    z_min := PySem.W.mg_none_of X G z_min
    z_range := PySem.W.mg_none_of X G z_range
    z_set := PySem.W.mg_none_of X G z_set
    z_sorted := PySem.W.mg_none_of X G z_sorted
    z_sum := PySem.W.mg_none_of X G z_sum
    z_tuple := PySem.W.mg_none_of X G z_tuple
    u_CONTROLLER := u_CONTROLLER
    g_CONTROLLER := PySem.W.mg_of X G g_CONTROLLER
    r_CONTROLLER := r_CONTROLLER
    u_DISTURBANCE := u_DISTURBANCE
    g_DISTURBANCE := PySem.W.mg_of X G g_DISTURBANCE
    r_DISTURBANCE := r_DISTURBANCE
    aforces := fforces
    dforces := _
    Fforces := fun_mk (st := sforces) lforces cforces kforces
    mforces := PySem.W.mg_of X G aforces
    a_all_marked := f_all_marked
    d_all_marked := _
    F_all_marked := fun_mk (st := s_all_marked) l_all_marked c_all_marked k_all_marked
    m_all_marked := PySem.W.mg_of X G a_all_marked
    a_some_marked := f_some_marked
    d_some_marked := _
    F_some_marked := fun_mk (st := s_some_marked) l_some_marked c_some_marked k_some_marked
    m_some_marked := PySem.W.mg_of X G a_some_marked
    asteps_to := fsteps_to
    dsteps_to := _
    Fsteps_to := fun_mk (st := ssteps_to) lsteps_to csteps_to ksteps_to
    msteps_to := PySem.W.mg_of X G asteps_to
    astay_ranks := fstay_ranks
    dstay_ranks := _
    Fstay_ranks := fun_mk (st := sstay_ranks) lstay_ranks cstay_ranks kstay_ranks
    mstay_ranks := PySem.W.mg_of X G astay_ranks
    a_ranks_to := f_ranks_to
    d_ranks_to := _
    F_ranks_to := fun_mk (st := s_ranks_to) l_ranks_to c_ranks_to k_ranks_to
    m_ranks_to := PySem.W.mg_of X G a_ranks_to
    aknown_arena := fknown_arena
    dknown_arena := _
    Fknown_arena := fun_mk (st := sknown_arena) lknown_arena cknown_arena kknown_arena
    mknown_arena := PySem.W.mg_of X G aknown_arena
    a_successors_of := f_successors_of
    d_successors_of := _
    F_successors_of := fun_mk (st := s_successors_of) l_successors_of c_successors_of k_successors_of
    m_successors_of := PySem.W.mg_of X G a_successors_of
    a_parted := f_parted
    d_parted := _
    F_parted := fun_mk (st := s_parted) l_parted c_parted k_parted
    m_parted := PySem.W.mg_of X G a_parted
    acan_know := fcan_know
    dcan_know := _
    Fcan_know := fun_mk (st := scan_know) lcan_know ccan_know kcan_know
    mcan_know := PySem.W.mg_of X G acan_know
    a_law_draws := f_law_draws
    d_law_draws := _
    F_law_draws := fun_mk (st := s_law_draws) l_law_draws c_law_draws k_law_draws
    m_law_draws := PySem.W.mg_of X G a_law_draws
    a_law_take := f_law_take
    d_law_take := _
    F_law_take := fun_mk (st := s_law_take) l_law_take c_law_take k_law_take
    m_law_take := PySem.W.mg_of X G a_law_take
    a_law_great := f_law_great
    d_law_great := _
    F_law_great := fun_mk (st := s_law_great) l_law_great c_law_great k_law_great
    m_law_great := PySem.W.mg_of X G a_law_great
    a_law_arena := f_law_arena
    d_law_arena := _
    F_law_arena := fun_mk (st := s_law_arena) l_law_arena c_law_arena k_law_arena
    m_law_arena := PySem.W.mg_of X G a_law_arena
    a_law_some := f_law_some
    d_law_some := _
    F_law_some := fun_mk (st := s_law_some) l_law_some c_law_some k_law_some
    m_law_some := PySem.W.mg_of X G a_law_some
    a_law_is_truth := f_law_is_truth
    d_law_is_truth := _
    F_law_is_truth := fun_mk (st := s_law_is_truth) l_law_is_truth c_law_is_truth k_law_is_truth
    m_law_is_truth := PySem.W.mg_of X G a_law_is_truth
    a_law_set := f_law_set
    d_law_set := _
    F_law_set := fun_mk (st := s_law_set) l_law_set c_law_set k_law_set
    m_law_set := PySem.W.mg_of X G a_law_set
    a_law_mask := f_law_mask
    d_law_mask := _
    F_law_mask := fun_mk (st := s_law_mask) l_law_mask c_law_mask k_law_mask
    m_law_mask := PySem.W.mg_of X G a_law_mask
    a_law_is_left := f_law_is_left
    d_law_is_left := _
    F_law_is_left := fun_mk (st := s_law_is_left) l_law_is_left c_law_is_left k_law_is_left
    m_law_is_left := PySem.W.mg_of X G a_law_is_left
    alaw := fa
    dlaw := _
    Flaw := fun_mk (st := slaw) llaw claw klaw
    mlaw := PySem.W.mg_of X G alaw }
  have hP := own fforces (PySem.W.mg_of X G aforces) cF PF _ _ _ _ _ _ lforces rfl tF tL t11
  refine ⟨T.dlaw, [(cF, PF)], spLawT K PF, fun p hp => ?_, fun p hp => ?_, fun p hp => ?_, fun s v => .of_eq rfl, fun H a ns hl _ hH hS => ⟨a, ns, rfl, hS, hl, ⟨#[], hH _ (List.mem_singleton.mpr rfl), trivial⟩, fun _ => rfl⟩, fun base _ _ hTB => ?_⟩
  · rw [List.mem_singleton.mp hp]; exact hP
  · rw [List.mem_singleton.mp hp]; exact tN
  · rw [List.mem_singleton.mp hp]; exact ⟨_, vsF, xFile, xt1, xFlags, xt2, xIn, xText, xt3, X _ _ tL, rfl, rfl, t11, tg11, tg18, tg7, tg9, tg10, tne⟩
  have TB0 := hTB (cF, PF) (List.mem_singleton.mpr rfl)
  exact ok_law T ⟨TB0.code, TB0.bm, TB0.gP⟩ tF
end NL
open PySem PySem.W PyProof.Rows
set_option maxRecDepth 100000 in
set_option maxHeartbeats 0 in
theorem PySem.Challenge.cw_neverleaves_k82_whole_no_controller_know_holds : PySem.Challenge.rw_neverleaves_k82_whole_no_controller_know.Holds := by
  w_on; o_law; k_head; (case hw => w_witness2)
  k_fill
  refine NL.walk_tab (l := PySem.Challenge.rw_neverleaves_k82_whole_no_controller_know) (n := 63) (k := 7) (x := "script") (CX := fun _ => L2.CX0) "forces" rfl (by decide) rfl ⟨rfl, by decide, by decide⟩ (by decide +kernel) (fun w h Y => PySem.W.kIn_of Y) ?F (fun _ _ _ _ _ h => h)
  case F =>
    intro w mg fa h _ KX G hmg own
    refine' NL.all_mk KX G hmg own  ?aforces ?lforces ?cforces ?kforces ?a_all_marked ?l_all_marked ?c_all_marked ?k_all_marked ?a_some_marked ?l_some_marked ?c_some_marked ?k_some_marked ?asteps_to ?lsteps_to ?csteps_to ?ksteps_to ?astay_ranks ?lstay_ranks ?cstay_ranks ?kstay_ranks ?a_ranks_to ?l_ranks_to ?c_ranks_to ?k_ranks_to ?aknown_arena ?lknown_arena ?cknown_arena ?kknown_arena ?a_successors_of ?l_successors_of ?c_successors_of ?k_successors_of ?a_parted ?l_parted ?c_parted ?k_parted ?acan_know ?lcan_know ?ccan_know ?kcan_know ?a_law_draws ?l_law_draws ?c_law_draws ?k_law_draws ?a_law_take ?l_law_take ?c_law_take ?k_law_take ?a_law_great ?l_law_great ?c_law_great ?k_law_great ?a_law_arena ?l_law_arena ?c_law_arena ?k_law_arena ?a_law_some ?l_law_some ?c_law_some ?k_law_some ?a_law_is_truth ?l_law_is_truth ?c_law_is_truth ?k_law_is_truth ?a_law_set ?l_law_set ?c_law_set ?k_law_set ?a_law_mask ?l_law_mask ?c_law_mask ?k_law_mask ?a_law_is_left ?l_law_is_left ?c_law_is_left ?k_law_is_left ?alaw ?llaw ?claw ?klaw ?g_CONTROLLER ?r_CONTROLLER ?g_DISTURBANCE ?r_DISTURBANCE ?tF ?tL ?t11 ?tN ?tg11 ?tg18 ?tg7 ?tg9 ?tg10 ?tne ?z_all ?z_any ?z_bool ?z_enumerate ?z_int ?z_isinstance ?z_len ?z_list ?z_min ?z_range ?z_set ?z_sorted ?z_sum ?z_tuple
    (case aforces => k_is); (case lforces => k_is); (case cforces => k_is); (case kforces => k_is)
    (case a_all_marked => k_is); (case l_all_marked => k_is); (case c_all_marked => k_is); (case k_all_marked => k_is)
    (case a_some_marked => k_is); (case l_some_marked => k_is); (case c_some_marked => k_is); (case k_some_marked => k_is)
    (case asteps_to => k_is); (case lsteps_to => k_is); (case csteps_to => k_is); (case ksteps_to => k_is)
    (case astay_ranks => k_is); (case lstay_ranks => k_is); (case cstay_ranks => k_is); (case kstay_ranks => k_is)
    (case a_ranks_to => k_is); (case l_ranks_to => k_is); (case c_ranks_to => k_is); (case k_ranks_to => k_is)
    (case aknown_arena => k_is); (case lknown_arena => k_is); (case cknown_arena => k_is); (case kknown_arena => k_is)
    (case a_successors_of => k_is); (case l_successors_of => k_is); (case c_successors_of => k_is); (case k_successors_of => k_is)
    (case a_parted => k_is); (case l_parted => k_is); (case c_parted => k_is); (case k_parted => k_is)
    (case acan_know => k_is); (case lcan_know => k_is); (case ccan_know => k_is); (case kcan_know => k_is)
    (case a_law_draws => k_is); (case l_law_draws => k_is); (case c_law_draws => k_is); (case k_law_draws => k_is)
    (case a_law_take => k_is); (case l_law_take => k_is); (case c_law_take => k_is); (case k_law_take => k_is)
    (case a_law_great => k_is); (case l_law_great => k_is); (case c_law_great => k_is); (case k_law_great => k_is)
    (case a_law_arena => k_is); (case l_law_arena => k_is); (case c_law_arena => k_is); (case k_law_arena => k_is)
    (case a_law_some => k_is); (case l_law_some => k_is); (case c_law_some => k_is); (case k_law_some => k_is)
    (case a_law_is_truth => k_is); (case l_law_is_truth => k_is); (case c_law_is_truth => k_is); (case k_law_is_truth => k_is)
    (case a_law_set => k_is); (case l_law_set => k_is); (case c_law_set => k_is); (case k_law_set => k_is)
    (case a_law_mask => k_is); (case l_law_mask => k_is); (case c_law_mask => k_is); (case k_law_mask => k_is)
    (case a_law_is_left => k_is); (case l_law_is_left => k_is); (case c_law_is_left => k_is); (case k_law_is_left => k_is)
    (case alaw => k_is); (case llaw => k_is); (case claw => k_is); (case klaw => k_is)
    (case g_CONTROLLER => k_is); (case r_CONTROLLER => exact ⟨_, rfl⟩)
    (case g_DISTURBANCE => k_is); (case r_DISTURBANCE => exact ⟨_, rfl⟩)
    (case tF => rfl); (case tL => k_is); (case t11 => rfl); (case tN => first | rfl | decide | k_is); (case tg11 => rfl); (case tg18 => rfl); (case tg7 => rfl); (case tg9 => rfl); (case tg10 => rfl); (case tne => decide)
    (case z_all => k_is)
    (case z_any => k_is)
    (case z_bool => k_is)
    (case z_enumerate => k_is)
    (case z_int => k_is)
    (case z_isinstance => k_is)
    (case z_len => k_is)
    (case z_list => k_is)
    (case z_min => k_is)
    (case z_range => k_is)
    (case z_set => k_is)
    (case z_sorted => k_is)
    (case z_sum => k_is)
    (case z_tuple => k_is)
