import PyProof.Rows.All
import Wide.All
import OpenK.AllK
import Wide.FinOn
import HandS.ForExc
import HandS.ForMost
import HandS.TupAny
import HandS.IsInst
import HandS.Codes
import HandS.FStr
import HandS.Zip
import HandS.TupSets
import HandS.SetFor
import HandS.Strs
import HandS.Conv
import HandS.TupMul
import HandS.SortKw
import KE.DataMinMax
import KE.KxIndex
import PySem.Challenge.RW_neverleaves_k93_delayed_arenas
set_option Elab.async false
set_option linter.all false
set_option maxRecDepth 100000

namespace NL
open PySem PySem.Spec PyProof.Rows L2
def topS (i : Nat) : Stmt := PySem.Challenge.pw_neverleaves_k93_delayed_arenas.main.body.getD i (.Pass ⟨0, 0, 0, 0⟩)
abbrev sdelayed_arena : Stmt := topS 1
abbrev Ndelayed_arena : List Str := ["arena", "delay", "most", "options", "queues", "pairs", "at", "queue", "delayed", "number"]
abbrev Pdelayed_arena : List Str := ["arena", "delay"]
theorem scdelayed_arena : FnScope Ndelayed_arena Pdelayed_arena (defScope sdelayed_arena) := ⟨rfl, rfl, rfl, by decide +kernel, rfl, by decide +kernel, by decide +kernel⟩
abbrev s_queues : Stmt := topS 2
abbrev N_queues : List Str := ["most", "delay", "queues", "_", "queue", "index"]
abbrev P_queues : List Str := ["most", "delay"]
theorem sc_queues : FnScope N_queues P_queues (defScope s_queues) := ⟨rfl, rfl, rfl, by decide +kernel, rfl, by decide +kernel, by decide +kernel⟩
abbrev s_options_of : Stmt := topS 3
abbrev N_options_of : List Str := ["options", "number", "most", "many", "delayed", "pick", "first", "rest"]
abbrev P_options_of : List Str := ["options", "number", "most", "many"]
theorem sc_options_of : FnScope N_options_of P_options_of (defScope s_options_of) := ⟨rfl, rfl, rfl, by decide +kernel, rfl, by decide +kernel, by decide +kernel⟩
abbrev s_successors_of : Stmt := topS 4
abbrev N_successors_of : List Str := ["option", "rest", "many", "after"]
abbrev P_successors_of : List Str := ["option", "rest", "many"]
theorem sc_successors_of : FnScope N_successors_of P_successors_of (defScope s_successors_of) := ⟨rfl, rfl, rfl, by decide +kernel, rfl, by decide +kernel, by decide +kernel⟩
abbrev scheck_arena : Stmt := topS 9
abbrev Ncheck_arena : List Str := ["arena", "options", "option"]
abbrev Pcheck_arena : List Str := ["arena"]
theorem sccheck_arena : FnScope Ncheck_arena Pcheck_arena (defScope scheck_arena) := ⟨rfl, rfl, rfl, by decide +kernel, rfl, by decide +kernel, by decide +kernel⟩
abbrev sis_ascending : Stmt := topS 10
abbrev Nis_ascending : List Str := ["numbers", "low", "end", "least", "number"]
abbrev Pis_ascending : List Str := ["numbers", "low", "end"]
theorem scis_ascending : FnScope Nis_ascending Pis_ascending (defScope sis_ascending) := ⟨rfl, rfl, rfl, by decide +kernel, rfl, by decide +kernel, by decide +kernel⟩
abbrev s_law_draws : Stmt := topS 12
abbrev N_law_draws : List Str := ["script", "many", "cells", "cell", "rest", "draws", "k", "at", "once"]
abbrev P_law_draws : List Str := ["script", "many"]
theorem sc_law_draws : FnScope N_law_draws P_law_draws (defScope s_law_draws) := ⟨rfl, rfl, rfl, by decide +kernel, rfl, by decide +kernel, by decide +kernel⟩
abbrev s_law_take : Stmt := topS 13
abbrev N_law_take : List Str := ["draws", "many"]
abbrev P_law_take : List Str := ["draws", "many"]
theorem sc_law_take : FnScope N_law_take P_law_take (defScope s_law_take) := ⟨rfl, rfl, rfl, by decide +kernel, rfl, by decide +kernel, by decide +kernel⟩
abbrev s_law_small : Stmt := topS 14
abbrev N_law_small : List Str := ["draws", "most", "count", "rare", "arena", "k", "options", "j", "found", "i", "drawn", "successor"]
abbrev P_law_small : List Str := ["draws", "most"]
theorem sc_law_small : FnScope N_law_small P_law_small (defScope s_law_small) := ⟨rfl, rfl, rfl, by decide +kernel, rfl, by decide +kernel, by decide +kernel⟩
abbrev s_law_queues : Stmt := topS 15
abbrev N_law_queues : List Str := ["many", "delay", "queues", "k", "longer", "queue", "index"]
abbrev P_law_queues : List Str := ["many", "delay"]
theorem sc_law_queues : FnScope N_law_queues P_law_queues (defScope s_law_queues) := ⟨rfl, rfl, rfl, by decide +kernel, rfl, by decide +kernel, by decide +kernel⟩
abbrev s_law_number : Stmt := topS 16
abbrev N_law_number : List Str := ["at", "queue", "many", "number", "index"]
abbrev P_law_number : List Str := ["at", "queue", "many"]
theorem sc_law_number : FnScope N_law_number P_law_number (defScope s_law_number) := ⟨rfl, rfl, rfl, by decide +kernel, rfl, by decide +kernel, by decide +kernel⟩
abbrev s_law_delayed : Stmt := topS 17
abbrev N_law_delayed : List Str := ["arena", "delay", "many", "options", "pairs", "at", "queue", "found", "pair", "pick", "successors", "inside", "reply"]
abbrev P_law_delayed : List Str := ["arena", "delay"]
theorem sc_law_delayed : FnScope N_law_delayed P_law_delayed (defScope s_law_delayed) := ⟨rfl, rfl, rfl, by decide +kernel, rfl, by decide +kernel, by decide +kernel⟩
abbrev s_law_same : Stmt := topS 18
abbrev N_law_same : List Str := ["actual", "due", "k"]
abbrev P_law_same : List Str := ["actual", "due"]
theorem sc_law_same : FnScope N_law_same P_law_same (defScope s_law_same) := ⟨rfl, rfl, rfl, by decide +kernel, rfl, by decide +kernel, by decide +kernel⟩
abbrev s_law_is_delayed : Stmt := topS 19
abbrev N_law_is_delayed : List Str := ["arena", "delay", "actual"]
abbrev P_law_is_delayed : List Str := ["arena", "delay"]
theorem sc_law_is_delayed : FnScope N_law_is_delayed P_law_is_delayed (defScope s_law_is_delayed) := ⟨rfl, rfl, rfl, by decide +kernel, rfl, by decide +kernel, by decide +kernel⟩
abbrev s_law_are_larger : Stmt := topS 20
abbrev N_law_are_larger : List Str := ["draws", "size", "first", "ring", "k", "more", "whole", "arena", "wide", "two"]
abbrev P_law_are_larger : List Str := ["draws"]
theorem sc_law_are_larger : FnScope N_law_are_larger P_law_are_larger (defScope s_law_are_larger) := ⟨rfl, rfl, rfl, by decide +kernel, rfl, by decide +kernel, by decide +kernel⟩
abbrev slaw : Stmt := topS 21
abbrev Nlaw : List Str := ["script", "draws", "arena", "delays", "delay", "many", "options", "padded", "stuck", "k", "pairs"]
abbrev Plaw : List Str := ["script"]
theorem sclaw : FnScope Nlaw Plaw (defScope slaw) := ⟨rfl, rfl, rfl, by decide +kernel, rfl, by decide +kernel, by decide +kernel⟩
def KT (K : PySem.W.Frag) (a : Addr) (ys : List V) : Prop := ∃ o its n, List.lookup a K = some o ∧ o.cls = .type "tuple" ∧ o.data = .seq its n ∧ its.size ≤ sizeLine ∧ L2.Vals ys its.toList
theorem kt_mk {K : PySem.W.Frag} {a : Addr} {ys : List V} {o : Obj} {its : Array Value} {n : Nat} (h1 : List.lookup a K = some o) (h2 : o.cls = .type "tuple") (h3 : o.data = .seq its n) (h4 : its.size ≤ sizeLine) (h5 : L2.Vals ys its.toList) : KT K a ys := ⟨o, its, n, h1, h2, h3, h4, h5⟩
set_option genInjectivity false in
set_option genSizeOfSpec false in
structure Txt (K : PySem.W.Frag) (mg : Str → Option Value) where
  z_bool : mg "bool" = none
  z_divmod : mg "divmod" = none
  z_int : mg "int" = none
  z_isinstance : mg "isinstance" = none
  z_len : mg "len" = none
  z_list : mg "list" = none
  z_max : mg "max" = none
  z_range : mg "range" = none
  z_set : mg "set" = none
  z_sorted : mg "sorted" = none
  z_str : mg "str" = none
  z_tuple : mg "tuple" = none
  adelayed_arena : Addr
  ddelayed_arena : FuncData
  Fdelayed_arena : Fun K "delayed_arena" "delayed_arena" sdelayed_arena adelayed_arena ddelayed_arena
  mdelayed_arena : mg "delayed_arena" = some (.ref adelayed_arena)
  a_queues : Addr
  d_queues : FuncData
  F_queues : Fun K "_queues" "_queues" s_queues a_queues d_queues
  m_queues : mg "_queues" = some (.ref a_queues)
  a_options_of : Addr
  d_options_of : FuncData
  F_options_of : Fun K "_options_of" "_options_of" s_options_of a_options_of d_options_of
  m_options_of : mg "_options_of" = some (.ref a_options_of)
  a_successors_of : Addr
  d_successors_of : FuncData
  F_successors_of : Fun K "_successors_of" "_successors_of" s_successors_of a_successors_of d_successors_of
  m_successors_of : mg "_successors_of" = some (.ref a_successors_of)
  acheck_arena : Addr
  dcheck_arena : FuncData
  Fcheck_arena : Fun K "check_arena" "check_arena" scheck_arena acheck_arena dcheck_arena
  mcheck_arena : mg "check_arena" = some (.ref acheck_arena)
  ais_ascending : Addr
  dis_ascending : FuncData
  Fis_ascending : Fun K "is_ascending" "is_ascending" sis_ascending ais_ascending dis_ascending
  mis_ascending : mg "is_ascending" = some (.ref ais_ascending)
  a_law_draws : Addr
  d_law_draws : FuncData
  F_law_draws : Fun K "_law_draws" "_law_draws" s_law_draws a_law_draws d_law_draws
  m_law_draws : mg "_law_draws" = some (.ref a_law_draws)
  a_law_take : Addr
  d_law_take : FuncData
  F_law_take : Fun K "_law_take" "_law_take" s_law_take a_law_take d_law_take
  m_law_take : mg "_law_take" = some (.ref a_law_take)
  a_law_small : Addr
  d_law_small : FuncData
  F_law_small : Fun K "_law_small" "_law_small" s_law_small a_law_small d_law_small
  m_law_small : mg "_law_small" = some (.ref a_law_small)
  a_law_queues : Addr
  d_law_queues : FuncData
  F_law_queues : Fun K "_law_queues" "_law_queues" s_law_queues a_law_queues d_law_queues
  m_law_queues : mg "_law_queues" = some (.ref a_law_queues)
  a_law_number : Addr
  d_law_number : FuncData
  F_law_number : Fun K "_law_number" "_law_number" s_law_number a_law_number d_law_number
  m_law_number : mg "_law_number" = some (.ref a_law_number)
  a_law_delayed : Addr
  d_law_delayed : FuncData
  F_law_delayed : Fun K "_law_delayed" "_law_delayed" s_law_delayed a_law_delayed d_law_delayed
  m_law_delayed : mg "_law_delayed" = some (.ref a_law_delayed)
  a_law_same : Addr
  d_law_same : FuncData
  F_law_same : Fun K "_law_same" "_law_same" s_law_same a_law_same d_law_same
  m_law_same : mg "_law_same" = some (.ref a_law_same)
  a_law_is_delayed : Addr
  d_law_is_delayed : FuncData
  F_law_is_delayed : Fun K "_law_is_delayed" "_law_is_delayed" s_law_is_delayed a_law_is_delayed d_law_is_delayed
  m_law_is_delayed : mg "_law_is_delayed" = some (.ref a_law_is_delayed)
  a_law_are_larger : Addr
  d_law_are_larger : FuncData
  F_law_are_larger : Fun K "_law_are_larger" "_law_are_larger" s_law_are_larger a_law_are_larger d_law_are_larger
  m_law_are_larger : mg "_law_are_larger" = some (.ref a_law_are_larger)
  alaw : Addr
  dlaw : FuncData
  Flaw : Fun K "law" "law" slaw alaw dlaw
  mlaw : mg "law" = some (.ref alaw)
theorem Txt.bdelayed_arena {K : PySem.W.Frag} {mg : Str → Option Value} (T : Txt K mg) : Binds K T.ddelayed_arena Pdelayed_arena [] := T.Fdelayed_arena.binds fun _ _ _ _ _ _ us hl => match us, hl with | [_, _], _ => rfl
theorem Txt.b_queues {K : PySem.W.Frag} {mg : Str → Option Value} (T : Txt K mg) : Binds K T.d_queues P_queues [] := T.F_queues.binds fun _ _ _ _ _ _ us hl => match us, hl with | [_, _], _ => rfl
theorem Txt.b_options_of {K : PySem.W.Frag} {mg : Str → Option Value} (T : Txt K mg) : Binds K T.d_options_of P_options_of [] := T.F_options_of.binds fun _ _ _ _ _ _ us hl => match us, hl with | [_, _, _, _], _ => rfl
theorem Txt.b_successors_of {K : PySem.W.Frag} {mg : Str → Option Value} (T : Txt K mg) : Binds K T.d_successors_of P_successors_of [] := T.F_successors_of.binds fun _ _ _ _ _ _ us hl => match us, hl with | [_, _, _], _ => rfl
theorem Txt.bcheck_arena {K : PySem.W.Frag} {mg : Str → Option Value} (T : Txt K mg) : Binds K T.dcheck_arena Pcheck_arena [] := T.Fcheck_arena.binds fun _ _ _ _ _ _ us hl => match us, hl with | [_], _ => rfl
theorem Txt.bis_ascending {K : PySem.W.Frag} {mg : Str → Option Value} (T : Txt K mg) : Binds K T.dis_ascending Pis_ascending [] := T.Fis_ascending.binds fun _ _ _ _ _ _ us hl => match us, hl with | [_, _, _], _ => rfl
theorem Txt.b_law_draws {K : PySem.W.Frag} {mg : Str → Option Value} (T : Txt K mg) : Binds K T.d_law_draws P_law_draws [] := T.F_law_draws.binds fun _ _ _ _ _ _ us hl => match us, hl with | [_, _], _ => rfl
theorem Txt.b_law_take {K : PySem.W.Frag} {mg : Str → Option Value} (T : Txt K mg) : Binds K T.d_law_take P_law_take [] := T.F_law_take.binds fun _ _ _ _ _ _ us hl => match us, hl with | [_, _], _ => rfl
theorem Txt.b_law_small {K : PySem.W.Frag} {mg : Str → Option Value} (T : Txt K mg) : Binds K T.d_law_small P_law_small [] := T.F_law_small.binds fun _ _ _ _ _ _ us hl => match us, hl with | [_, _], _ => rfl
theorem Txt.b_law_queues {K : PySem.W.Frag} {mg : Str → Option Value} (T : Txt K mg) : Binds K T.d_law_queues P_law_queues [] := T.F_law_queues.binds fun _ _ _ _ _ _ us hl => match us, hl with | [_, _], _ => rfl
theorem Txt.b_law_number {K : PySem.W.Frag} {mg : Str → Option Value} (T : Txt K mg) : Binds K T.d_law_number P_law_number [] := T.F_law_number.binds fun _ _ _ _ _ _ us hl => match us, hl with | [_, _, _], _ => rfl
theorem Txt.b_law_delayed {K : PySem.W.Frag} {mg : Str → Option Value} (T : Txt K mg) : Binds K T.d_law_delayed P_law_delayed [] := T.F_law_delayed.binds fun _ _ _ _ _ _ us hl => match us, hl with | [_, _], _ => rfl
theorem Txt.b_law_same {K : PySem.W.Frag} {mg : Str → Option Value} (T : Txt K mg) : Binds K T.d_law_same P_law_same [] := T.F_law_same.binds fun _ _ _ _ _ _ us hl => match us, hl with | [_, _], _ => rfl
theorem Txt.b_law_is_delayed {K : PySem.W.Frag} {mg : Str → Option Value} (T : Txt K mg) : Binds K T.d_law_is_delayed P_law_is_delayed [] := T.F_law_is_delayed.binds fun _ _ _ _ _ _ us hl => match us, hl with | [_, _], _ => rfl
theorem Txt.b_law_are_larger {K : PySem.W.Frag} {mg : Str → Option Value} (T : Txt K mg) : Binds K T.d_law_are_larger P_law_are_larger [] := T.F_law_are_larger.binds fun _ _ _ _ _ _ us hl => match us, hl with | [_], _ => rfl
theorem Txt.blaw {K : PySem.W.Frag} {mg : Str → Option Value} (T : Txt K mg) : Binds K T.dlaw Plaw [] := T.Flaw.binds fun _ _ _ _ _ _ us hl => match us, hl with | [_], _ => rfl
end NL

namespace NL
open PySem PySem.Spec PyProof.Rows L2

/-! ### frames: what stays while the list of draws at d is used up -/
structure Go (d : Addr) (H H' : Hp) : Prop where
  fr : ∀ b o, b ≠ d → H b = some o → H' b = some o
  dr : ∃ ns : List Int, H' d = some (.lst (ns.map V.int))
abbrev Dr (H : Hp) (d : Addr) : Prop := ∃ ns : List Int, H d = some (.lst (ns.map V.int))
theorem Go.refl {d : Addr} {H : Hp} (h : Dr H d) : Go d H H := ⟨fun _ _ _ e => e, h⟩
theorem Go.trans {d : Addr} {H H1 H2 : Hp} (a : Go d H H1) (b : Go d H1 H2) : Go d H H2 := ⟨fun c o n e => b.fr c o n (a.fr c o n e), b.dr⟩
theorem Go.new {d p : Addr} {H : Hp} {o : HO} (h : Dr H d) (hp : H p = none) : Go d H (upd H p o) := by
  obtain ⟨ns, e⟩ := h
  have n : d ≠ p := ne_of_none e hp
  exact ⟨fun b u _ q => by rw [upd_ne (ne_of_none q hp)]; exact q, ⟨ns, by rw [upd_ne n]; exact e⟩⟩
theorem Go.put {d : Addr} {H : Hp} (ns : List Int) : Go d H (upd H d (.lst (ns.map V.int))) := ⟨fun b u n q => by rw [upd_ne n]; exact q, ⟨ns, upd_same⟩⟩
theorem Go.same {d : Addr} {H H' : Hp} (h : Dr H d) (s : Same H H') : Go d H H' := ⟨fun b o _ e => s b o e, by obtain ⟨ns, e⟩ := h; exact ⟨ns, s _ _ e⟩⟩
theorem Go.tup {d a : Addr} {H H' : Hp} {xs : List V} (g : Go d H H') (h : Dr H d) (e : H a = some (.tup xs)) : H' a = some (.tup xs) := by
  refine g.fr a _ ?_ e
  rintro rfl
  obtain ⟨ns, q⟩ := h
  rw [e] at q; cases q
theorem same_new {H : Hp} {p : Addr} (h : H p = none) (o : HO) : Same H (upd H p o) := fun b u q => by rw [upd_ne (ne_of_none q h)]; exact q
/-- all tuples stay -/
def Tp (H H' : Hp) : Prop := ∀ a xs, H a = some (.tup xs) → H' a = some (.tup xs)
theorem Go.tp {d : Addr} {H H' : Hp} (g : Go d H H') (h : Dr H d) : Tp H H' := fun _ _ e => g.tup h e
theorem Tp.same {H H' : Hp} (s : Same H H') : Tp H H' := fun _ _ e => s _ _ e
theorem Tp.trans {H H1 H2 : Hp} (a : Tp H H1) (b : Tp H1 H2) : Tp H H2 := fun x y e => b x y (a x y e)
theorem Tp.refl {H : Hp} : Tp H H := fun _ _ e => e
/-- a list that stays readable whatever is drawn at d -/
def Keep (K : PySem.W.Frag) (d : Addr) (H : Hp) (a : Addr) (xs : List V) : Prop := ∀ H', (∀ b o, b ≠ d → H b = some o → H' b = some o) → SqL K H' a xs
theorem Keep.now {K : PySem.W.Frag} {d a : Addr} {H : Hp} {xs : List V} (k : Keep K d H a xs) : SqL K H a xs := k H fun _ _ _ e => e
theorem Keep.go {K : PySem.W.Frag} {d a : Addr} {H H' : Hp} {xs : List V} (k : Keep K d H a xs) (g : Go d H H') : Keep K d H' a xs := fun H2 f => k H2 fun b o n e => f b o n (g.fr b o n e)
theorem Keep.of {K : PySem.W.Frag} {d a : Addr} {H : Hp} {xs : List V} (n : a ≠ d) (h : H a = some (.lst xs)) : Keep K d H a xs := fun H' f => .inl (.inl (f a _ n h))
/-- what was read ahead of the draws' list stays -/
theorem Keep.old {K : PySem.W.Frag} {d a : Addr} {H0 H : Hp} {xs : List V} (h : SqL K H0 a xs) (hd : H0 d = none) (f : ∀ b o, H0 b = some o → H b = some o) : Keep K d H a xs := fun H' g => by
  rcases h with (h | ⟨o, h⟩) | h
  · exact .inl (.inl (g a _ (ne_of_none h hd) (f _ _ h)))
  · exact .inl (.inr ⟨o, g a _ (ne_of_none h hd) (f _ _ h)⟩)
  · exact .inr h

/-! ### rules whose written part is named (in a comprehension) -/
theorem ix_tupK {X : Cx} {K : PySem.W.Frag} (h : X.K = K) : IxR X (rIxT K) := by subst h; exact ix_tup
theorem ix_listK {X : Cx} {K : PySem.W.Frag} (h : X.K = K) : IxR X (rIxL K) := by subst h; exact ix_list
def rTupOf (K : PySem.W.Frag) : List V → Hp → VK → Prop := fun xs H Q => ∃ p ys, xs = [.ref p] ∧ ((SqL K H p ys ∧ ∀ l, H l = none → Q (.ref l) (upd H l (.tup ys))) ∨ (SqT K H p ys ∧ Q (.ref p) H))
theorem call_tuple_ofK {X : Cx} {K : PySem.W.Frag} (h : X.K = K) : CallR X (.type "tuple") (rTupOf K) := by subst h; exact call_tuple_of
/-! ### texts and words -/
/-- signs a to z alone -/
def Wd (z : Str) : Prop := ∀ c ∈ z.cps.toList, 97 ≤ c ∧ c ≤ 122
instance (z : Str) : Decidable (Wd z) := by unfold Wd; infer_instance
def res : List Str := ["true", "false", "add", "sub", "mul", "div", "mod", "min", "max", "abs", "if", "less", "equal", "not", "all", "any"]
theorem app_list (a b : Str) : (a ++ b).cps.toList = a.cps.toList ++ b.cps.toList := by
  show (a.cps ++ b.cps).toList = _
  simp
theorem len_list (a : Str) : a.length = a.cps.toList.length := by
  show a.cps.size = _
  simp
theorem len_app (a b : Str) : (a ++ b).length = a.length + b.length := by
  rw [len_list, app_list, List.length_append, ← len_list, ← len_list]
theorem str_ext {a b : Str} (h : a.cps.toList = b.cps.toList) : a = b := by
  cases a with | mk x => cases b with | mk y =>
  have : x = y := Array.toList_inj.mp h
  rw [this]
theorem Wd.app {a b : Str} (ha : Wd a) (hb : Wd b) : Wd (a ++ b) := fun c hc => by
  rw [app_list] at hc
  rcases List.mem_append.mp hc with h | h
  · exact ha c h
  · exact hb c h
structure Nam (z : Str) : Prop where
  wd : Wd z
  len : 0 < z.length ∧ z.length ≤ 200
  nr : z ∉ res
structure Nm (z : Str) : Prop where
  wd : Wd z
  len : 0 < z.length ∧ z.length ≤ 150

/-! ### lists at an index -/
theorem atI_mem {α : Type} {xs : List α} {i : Int} (h0 : 0 ≤ i) (h1 : i < xs.length) : ∃ v, atI xs i = some v ∧ v ∈ xs := by
  have hk : i.toNat < xs.length := by omega
  have ek : i = ((i.toNat : Nat) : Int) := by omega
  have q : atI xs ((i.toNat : Nat) : Int) = some xs[i.toNat] := atI_nat (List.getElem?_eq_getElem hk)
  rw [← ek] at q
  exact ⟨_, q, List.getElem_mem hk⟩
theorem atI_map {α β : Type} {f : α → β} {xs : List α} {i : Int} (h0 : 0 ≤ i) (h1 : i < xs.length) : ∃ v, atI (xs.map f) i = some (f v) ∧ v ∈ xs := by
  obtain ⟨v, h, m⟩ := atI_mem (xs := xs.map f) h0 (by rw [List.length_map]; exact h1)
  obtain ⟨u, hu, rfl⟩ := List.mem_map.mp m
  exact ⟨u, h, hu⟩
theorem sqd {K : PySem.W.Frag} {H : Hp} {a : Addr} {xs : List V} (h : H a = some (.lst xs)) : SqL K H a xs := .inl (.inl h)
theorem sqt {K : PySem.W.Frag} {H : Hp} {a : Addr} {xs : List V} (h : H a = some (.tup xs)) : SqT K H a xs := .inl (.inl h)
theorem int_eq {i j : Int} (h : decide (V.int i = V.int j) = true) : i = j := V.int.inj (of_decide_eq_true h)
theorem int_ne {i j : Int} (h : ¬ decide (V.int i = V.int j) = true) : i ≠ j := fun e => h (decide_eq_true (by rw [e]))
section
variable {P : Program} {w : World} {K : PySem.W.Frag} {mg : Str → Option Value} {base : Heap}
/-! ### _law_take -/
def spTake : Sp := fun vs H Q _ => ∃ (d : Addr) (m : Int), vs = [.ref d, .int m] ∧ Dr H d ∧ 0 < m ∧ ∀ r H', Go d H H' → 0 ≤ r → r < m → Q (.int r) H'
theorem ok_law_take (T : Txt K mg) : FnOk P w K mg base CX0 1 T.a_law_take T.d_law_take P_law_take spTake := by
  refine T.F_law_take.ok sc_law_take (fun vs H Q E h => ?_) (fun cdv A outer s H vs Q E hr h => ?_)
  · obtain ⟨d, m, rfl, _⟩ := h
    rfl
  obtain ⟨d, m, rfl, hD, hm, q⟩ := h
  refine ⟨_, (pss_cons (ps_if (pt_cmpR op_eq (pe_callB call_len_seq (by rfl) T.z_len PySem.boot_len (pa_cons (pv 0) pa_nil)) pe_int (nomark _))
    (pss_one (ps_ret pe_int))
    pss_nil)
    (pss_one (ps_ret (pe_op op_mod (pe_callTy call_int1 (by rfl) T.z_int (by decide +kernel) (pa_cons (pe_bm0 PySem.F.plainAttrs_list PySem.F.slot_list_pop PySem.F.type_list_pop mt_pop (pv 0)) pa_nil)) (pv 1))))), ?_⟩
  obtain ⟨ns, hd⟩ := hD
  refine ⟨_, rfl, _, _, rfl, .inl (sqd hd), rfl, _, rfl, ?_⟩
  refine ite2 (fun c => ?_) (fun c => ?_)
  · exact q 0 H (Go.refl ⟨ns, hd⟩) (Int.le_refl 0) hm
  · have hn := int_ne c
    rw [List.length_map] at hn
    have hz : ns ≠ [] := by
      rintro rfl
      exact hn rfl
    have hl : 0 < ns.length := List.length_pos_iff.mpr hz
    have he : (ns.map V.int)[(ns.map V.int).length - 1]? = some (.int ns[ns.length - 1]) := by
      rw [List.length_map, List.getElem?_map, List.getElem?_eq_getElem (by omega)]
      rfl
    refine ⟨_, rfl, .inl ⟨rfl, _, sqd hd⟩, _, _, _, rfl, rfl, hd, he, .inl ⟨_, rfl, ?_⟩⟩
    refine ⟨_, rfl, _, _, rfl, rfl, hm, ?_⟩
    refine q _ _ ?_ (Int.emod_nonneg _ (by omega)) (Int.emod_lt_of_pos _ hm)
    rw [← List.map_dropLast]
    exact Go.put _
end
end NL

namespace NL
open PySem PySem.Spec PyProof.Rows L2
theorem yes_if {σ : L2.St} {H : Hp} {a n : Hp → Prop} (h : a H) : tYes σ H (fun b H3 => if b = true then a H3 else n H3) := by
  show (if true = true then a H else n H)
  rw [if_pos rfl]
  exact h
/-- one reading for two ways -/
theorem cutP {B C : Prop} (f : B → C) (b : B) : C := f b
theorem ifT {c : Bool} {A B : Prop} (h : c = true) (a : A) : if c = true then A else B := by
  rw [if_pos h]; exact a
theorem ifF {c : Bool} {A B : Prop} (h : c = false) (b : B) : if c = true then A else B := by
  rw [if_neg (by rw [h]; exact Bool.false_ne_true)]; exact b
theorem atI0 {α : Type} {x : α} {r : List α} : atI (x :: r) 0 = some x := atI_nat (j := 0) rfl
theorem atI1 {α : Type} {x y : α} {r : List α} : atI (x :: y :: r) 1 = some y := atI_nat (j := 1) rfl
theorem boolE {Q : VK} {b b' : Bool} {H : Hp} (h : b = b') (q : Q (.bl b') H) : Q (.bl b) H := by rw [h]; exact q
theorem big {n : Nat} (h : n ≤ 1000000) : n ≤ sizeLine := Nat.le_trans h (by decide)
theorem big' {n : Nat} (h : n ≤ 1000000) : n < sizeLine := Nat.lt_of_le_of_lt h (by decide)
theorem int_in {x : Int} {l : List Int} : inV (.int x) (l.map V.int) = decide (x ∈ l) := by
  unfold inV
  rw [List.any_map]
  induction l with
  | nil => rfl
  | cons a r ih =>
    rw [List.any_cons, ih]
    show (eqV (.int a) (.int x) || _) = _
    have e : eqV (.int a) (.int x) = decide (x = a) := by
      show (a == x) = _
      rw [Bool.beq_eq_decide_eq]
      exact decide_eq_decide.mpr ⟨fun h => h.symm, fun h => h.symm⟩
    rw [e, ← Bool.decide_or]
    exact decide_eq_decide.mpr List.mem_cons.symm
theorem flat_ints' (l : List Int) : (l.map V.int).all flatV = true := by
  induction l with
  | nil => rfl
  | cons a r ih => rw [List.map_cons, List.all_cons, ih]; rfl
theorem notIn_int {x : Int} {l : List Int} : (if true = true then !inV (V.int x) (l.map V.int) else inV (V.int x) (l.map V.int)) = !decide (x ∈ l) := by
  rw [if_pos rfl, int_in]
def rLenK (K : PySem.W.Frag) : List V → Hp → VK → Prop := fun xs H Q => ∃ p ys, xs = [.ref p] ∧ (SqL K H p ys ∨ SqT K H p ys) ∧ Q (.int (ys.length : Nat)) H
theorem call_len_seqK {X : Cx} {K : PySem.W.Frag} (h : X.K = K) : CallR X (.builtin "len") (rLenK K) := by
  subst h
  exact call_len_seq
end NL

namespace NL
open PySem PySem.Spec PyProof.Rows L2
theorem ixN_in {n : Nat} {k : Int} (h0 : 0 ≤ k) (h1 : k < n) : ixN n k = some k.toNat := by
  unfold ixN
  rw [if_pos h0, if_pos h1]
/-- a change at what was not there before -/
theorem same_put {H H' : Hp} {p : Addr} {o : HO} (s : Same H H') (hp : H p = none) : Same H (upd H' p o) := fun b u e => by
  rw [upd_ne (ne_of_none e hp)]
  exact s b u e
section
variable {P : Program} {w : World} {K : PySem.W.Frag} {mg : Str → Option Value} {base : Heap}
def spDraws (K : PySem.W.Frag) : Sp := fun vs H Q _ => ∃ (a : Addr) (ns : List Int) (m : Int), vs = [.ref a, .int m] ∧ SqL K H a (ns.map V.int) ∧ ns.length ≤ 63 ∧ 0 ≤ m ∧ m ≤ 10000 ∧
  ∀ d H', Same H H' → H d = none → Dr H' d → Q (.ref d) H'
theorem ok_law_draws (T : Txt K mg) : FnOk P w K mg base CX0 1 T.a_law_draws T.d_law_draws P_law_draws (spDraws K) := by
  refine T.F_law_draws.ok sc_law_draws (fun vs H Q E h => ?_) (fun cdv A outer s H vs Q E hr h => ?_)
  · obtain ⟨a, ns, m, rfl, _⟩ := h
    rfl
  obtain ⟨a, ns, m, rfl, hS, hl, m0, m1, q⟩ := h
  refine ⟨_, (pss_cons (ps_setLc (i := 2) (own := [("cell", 3)]) (g := (gName 3)) (tt := tYes) rfl sc_law_draws.nd rfl rfl (sw_true rfl rfl rfl (by decide +kernel)) (pi_list (pv 0)) (blkOk_by (N := N_law_draws) (sc := defScope s_law_draws) (by decide +kernel)) (fun _ _ _ _ _ => (pg_name (i := 3) sc_law_draws.nd rfl (Or.inl rfl))) (fun _ _ _ _ _ => pts_nil) (fun _ _ _ _ _ => (pe_callTy call_int1 (by rfl) T.z_int (by decide +kernel) (pa_cons (pv 3) pa_nil))))
    (C8.pss_cut (ps_if (pt_cmpR op_eq (pe_callB call_len_seq (by rfl) T.z_len PySem.boot_len (pa_cons (pv 2) pa_nil)) pe_int (nomark _))
    (pss_one (ps_expr (pe_bm PySem.F.plainAttrs_list PySem.F.slot_list_append PySem.F.type_list_append mt_append (pv 2) (pa_cons pe_int pa_nil))))
    pss_nil)
    (pss_cons (ps_set (i := 4) sc_law_draws.nd rfl (Or.inl rfl) (pe_callTy call_list_of (by rfl) T.z_list (by decide +kernel) (pa_cons (pv 2) pa_nil)))
    (pss_cons (ps_set (i := 5) sc_law_draws.nd rfl (Or.inl rfl) (pe_lst pa_nil))
    (pss_cons (ps_for  PassesOwn.never rfl (pi_range1 (by rfl) T.z_range (pa_cons (pv 1) pa_nil)) (pg_name (i := 6) sc_law_draws.nd rfl (Or.inl rfl))
    (pss_cons (ps_set (i := 7) sc_law_draws.nd rfl (Or.inl rfl) (pe_op op_mod (pv 6) (pe_callB call_len_seq (by rfl) T.z_len PySem.boot_len (pa_cons (pv 2) pa_nil))))
    (pss_one (ps_if (pt_cmpR op_ge (pe_ix ix_list (pv 2) (pv 7) (fun _ _ => rfl)) (pe_op op_pow pe_int pe_int) (nomark _))
    (pss_cons (ps_expr (pe_bm PySem.F.plainAttrs_list PySem.F.slot_list_append PySem.F.type_list_append mt_append (pv 5) (pa_cons (pe_op op_mod (pe_callTy call_int1 (by rfl) T.z_int (by decide +kernel) (pa_cons (pe_ix ix_list (pv 4) (pv 7) (fun _ _ => rfl)) pa_nil)) pe_int) pa_nil)))
    (pss_one (ps_asg (pe_op op_fdiv (pe_ix ix_list (pv 4) (pv 7) (fun _ _ => rfl)) pe_int) (pg_sub (pv 4) (pv 7) set_list))))
    (pss_cons (ps_set (i := 8) sc_law_draws.nd rfl (Or.inl rfl) (pe_op op_mod (pe_callTy call_int1 (by rfl) T.z_int (by decide +kernel) (pa_cons (pe_op op_add (pe_op op_add (pe_op op_mul (pe_ix ix_list (pv 2) (pv 7) (fun _ _ => rfl)) pe_int) (pe_op op_mul (pv 6) pe_int)) pe_int) pa_nil)) pe_int))
    (pss_one (ps_expr (pe_bm PySem.F.plainAttrs_list PySem.F.slot_list_append PySem.F.type_list_append mt_append (pv 5) (pa_cons (pe_op op_mod (pe_callTy call_int1 (by rfl) T.z_int (by decide +kernel) (pa_cons (pe_op op_add (pe_op op_add (pe_op op_mul (pv 8) (pv 8)) (pe_op op_mul pe_int (pv 8))) (pv 6)) pa_nil)) pe_int) pa_nil)))))))))
    (pss_cons (ps_expr (pe_bm0 PySem.F.plainAttrs_list PySem.F.slot_list_reverse PySem.F.type_list_reverse mt_reverse (pv 5)))
    (pss_one (ps_ret (pv 5))))))))), ?_⟩
  -- cells
  refine ⟨_, rfl, a, rfl, ⟨_, hS⟩, fun c hc => ?_⟩
  refine lc_list (K := K) (a := a) (xs := ns.map V.int) (fun (j : Nat) (H' : Hp) => Same H H' ∧ H' c = some (.lst ((ns.take j).map V.int))) ?_ ?_ ?_ ?_
  · exact ⟨same_new hc _, by rw [upd_same, List.take_zero]; rfl⟩
  · rintro i H' _ ⟨s1, _⟩
    exact s1.seq hS
  · rintro i x H' hx ⟨s1, e1⟩
    rw [List.getElem?_map] at hx
    cases hn : ns[i]? with
    | none => rw [hn] at hx; cases hx
    | some n =>
      rw [hn] at hx
      obtain rfl : V.int n = x := Option.some.inj hx
      refine ⟨rfl, yes_if ?_⟩
      refine ⟨_, rfl, .inl ⟨n, rfl, _, e1, ?_, same_put s1 hc, ?_⟩⟩
      · rw [List.length_map, List.length_take]
        exact big' (by omega)
      · rw [upd_same, List.take_add_one, hn, List.map_append]
        rfl
  · rintro H1 ⟨s1, e1⟩
    rw [List.length_map, List.take_length] at e1
    -- at least one cell
    refine ⟨fun σ H2 => ∃ cs : List Int, cs ≠ [] ∧ cs.length ≤ 63 ∧ σ = [some (.ref a), some (.int m), some (.ref c), none, none, none, none, none, none] ∧ Same H H2 ∧ H2 c = some (.lst (cs.map V.int)), ?_, ?_⟩
    · refine ⟨_, rfl, _, _, rfl, .inl (sqd e1), rfl, _, rfl, ?_⟩
      refine ite2 (fun z => ?_) (fun z => ?_)
      · refine ⟨_, rfl, .inl ⟨rfl, _, sqd e1⟩, c, _, _, rfl, rfl, e1, ?_, ?_⟩
        · rw [List.length_map]
          exact big' (by omega)
        · have hz := int_eq z
          rw [List.length_map] at hz
          have : ns = [] := List.length_eq_zero_iff.mp (by omega)
          subst this
          exact ⟨[0], by simp, by decide, rfl, same_put s1 hc, upd_same⟩
      · have hz := int_ne z
        rw [List.length_map] at hz
        refine ⟨ns, ?_, hl, rfl, s1, e1⟩
        rintro rfl
        exact hz rfl
    · rintro σ H2 ⟨cs, hcs, hcl, rfl, s2, e2⟩
      have hpos : 0 < cs.length := List.length_pos_iff.mpr hcs
      -- rest, draws
      refine ⟨_, rfl, _, _, rfl, .inl (sqd e2), fun r hr2 => ?_⟩
      have ncr : c ≠ r := ne_of_none e2 hr2
      refine ⟨(Nat.le_of_ble_eq_true rfl), fun d hd => ?_⟩
      have ncd : c ≠ d := ne_of_none (by rw [upd_ne ncr]; exact e2) hd
      have nrd : r ≠ d := ne_of_none upd_same hd
      have hHr : H r = none := s2.free hr2
      have hHd : H d = none := (s2.trans (same_new hr2 _)).free hd
      refine ⟨_, rfl, m, rfl, by omega, by omega, for_range (lo := 0) (n := m.toNat) (fun (j : Nat) (σ : L2.St) (H' : Hp) => ∃ (rs ds : List Int) (y1 y2 y3 : Option V), σ = [some (.ref a), some (.int m), some (.ref c), none, some (.ref r), some (.ref d), y1, y2, y3] ∧ Same H H' ∧ H' c = some (.lst (cs.map V.int)) ∧ H' r = some (.lst (rs.map V.int)) ∧ rs.length = cs.length ∧ H' d = some (.lst (ds.map V.int)) ∧ ds.length ≤ j) ?_ ?_ ?_⟩
      · refine ⟨cs, [], none, none, none, rfl, (s2.trans (same_new hr2 _)).trans (same_new hd _), ?_, ?_, rfl, upd_same, Nat.le_refl _⟩
        · rw [upd_ne ncd, upd_ne ncr]; exact e2
        · rw [upd_ne nrd]; exact upd_same
      · rintro j σ H' hj ⟨rs, ds, y1, y2, y3, rfl, s3, ec, er, hrl, ed, hdl⟩
        have b0 := Int.emod_nonneg ((0 : Int) + (j : Int)) (show (((cs.map V.int).length : Nat) : Int) ≠ 0 by rw [List.length_map]; omega)
        have b1 : (((0 : Int) + (j : Int)) % (((cs.map V.int).length : Nat) : Int)) < (cs.length : Int) := by
          have h := Int.emod_lt_of_pos ((0 : Int) + (j : Int)) (show 0 < (((cs.map V.int).length : Nat) : Int) by rw [List.length_map]; omega)
          rw [List.length_map] at h ⊢
          exact h
        refine ⟨_, rfl, _, rfl, _, _, rfl, .inl (sqd ec), _, _, rfl, rfl, (by show 0 < (((cs.map V.int).length : Nat) : Int); rw [List.length_map]; omega), ?_⟩
        obtain ⟨cv, hcv, _⟩ := atI_map (f := V.int) (xs := cs) b0 b1
        obtain ⟨rv, hrv, _⟩ := atI_map (f := V.int) (xs := rs) b0 (by omega)
        refine ⟨_, rfl, _, rfl, _, _, _, _, rfl, rfl, sqd ec, hcv, _, _, rfl, rfl, ⟨by decide, by decide, by decide⟩, _, _, rfl, rfl, _, rfl, ?_⟩
        refine ite2 (fun z => ?_) (fun z => ?_)
        · refine ⟨_, rfl, .inl ⟨rfl, _, sqd ed⟩, _, rfl, _, rfl, _, _, _, _, rfl, rfl, sqd er, hrv, .inl ⟨_, rfl, _, _, rfl, rfl, (by show (0 : Int) < 1000; decide), d, _, _, rfl, rfl, ed, ?_, ?_⟩⟩
          · rw [List.length_map]
            exact big' (by omega)
          · have er2 : ∀ o, (upd H' d o) r = some (.lst (rs.map V.int)) := fun o => by rw [upd_ne nrd]; exact er
            refine ⟨_, rfl, _, rfl, _, _, _, _, rfl, rfl, sqd (er2 _), hrv, _, _, rfl, rfl, ⟨by decide, by decide⟩, _, rfl, _, rfl, r, _, _, _, rfl, rfl, er2 _, ixN_in b0 (by have h : (rs.map V.int).length = rs.length := List.length_map _; omega), ?_⟩
            refine ⟨rs.set (((0 : Int) + (j : Int)) % (((cs.map V.int).length : Nat) : Int)).toNat (rv / 1000), ds ++ [rv % 1000], _, _, _, rfl, same_put (same_put s3 hHd) hHr, ?_, ?_, ?_, ?_, ?_⟩
            · rw [upd_ne ncr, upd_ne ncd]; exact ec
            · rw [upd_same, List.map_set]
            · rw [List.length_set]; exact hrl
            · rw [upd_ne nrd.symm, upd_same, List.map_append]; rfl
            · rw [List.length_append, List.length_singleton]; omega
        · have o0 := fun z : Int => Int.emod_nonneg z (by decide : (2147483647 : Int) ≠ 0)
          have o1 := fun z : Int => Int.emod_lt_of_pos z (by decide : (0 : Int) < 2147483647)
          refine ⟨_, rfl, _, rfl, _, _, _, _, rfl, rfl, sqd ec, hcv, _, _, rfl, rfl, .inr ⟨by decide, by decide⟩, _, rfl, _, _, rfl, rfl, .inr ⟨by decide, by decide⟩, _, _, rfl, rfl, _, _, rfl, rfl, .inl ⟨_, rfl, _, _, rfl, rfl, (by show (0 : Int) < 2147483647; decide), ?_⟩⟩
          refine ⟨_, rfl, .inl ⟨rfl, _, sqd ed⟩, _, rfl, _, rfl, _, _, rfl, rfl, ?_, ?_⟩
          · left
            have h1 := o0 (cv * 48271 + (0 + (j : Int)) * 69621 + 11)
            have h2 := o1 (cv * 48271 + (0 + (j : Int)) * 69621 + 11)
            constructor
            · show -(2 ^ 64) < _
              omega
            · show _ < 2 ^ 64
              omega
          · refine ⟨_, rfl, _, _, rfl, rfl, .inl ⟨by decide, by decide⟩, _, _, rfl, rfl, _, rfl, _, _, rfl, rfl, .inl ⟨_, rfl, _, _, rfl, rfl, (by show (0 : Int) < 1000003; decide), d, _, _, rfl, rfl, ed, ?_, ?_⟩⟩
            · rw [List.length_map]
              exact big' (by omega)
            · refine ⟨rs, ds ++ [(((cv * 48271 + (0 + (j : Int)) * 69621 + 11) % 2147483647) * ((cv * 48271 + (0 + (j : Int)) * 69621 + 11) % 2147483647) + 3 * ((cv * 48271 + (0 + (j : Int)) * 69621 + 11) % 2147483647) + (0 + (j : Int))) % 1000003], _, _, _, rfl, same_put s3 hHd, ?_, ?_, hrl, ?_, ?_⟩
              · rw [upd_ne ncd]; exact ec
              · rw [upd_ne nrd]; exact er
              · rw [upd_same, List.map_append]; rfl
              · rw [List.length_append, List.length_singleton]; omega
      · rintro σ H' ⟨rs, ds, y1, y2, y3, rfl, s3, ec, er, hrl, ed, hdl⟩
        refine ⟨_, rfl, .inl ⟨rfl, _, sqd ed⟩, d, _, rfl, rfl, ed, ?_⟩
        refine ⟨_, rfl, q d _ (same_put s3 hHd) hHd ⟨ds.reverse, ?_⟩⟩
        rw [upd_same, List.map_reverse]
end
end NL

namespace NL
open PySem PySem.Spec PyProof.Rows L2
/-! ### rows and what stands in them -/
def Each {α : Type} (R : α → V → Prop) (l : List α) (xs : List V) : Prop := xs.length = l.length ∧ ∀ (k : Nat) a x, l[k]? = some a → xs[k]? = some x → R a x
theorem Each.nil {α : Type} {R : α → V → Prop} : Each R [] [] := ⟨rfl, fun k a x h => by simp at h⟩
theorem Each.mono {α : Type} {R S : α → V → Prop} {l : List α} {xs : List V} (h : Each R l xs) (f : ∀ a x, R a x → S a x) : Each S l xs := ⟨h.1, fun k a x e g => f a x (h.2 k a x e g)⟩
theorem Each.cons {α : Type} {R : α → V → Prop} {l : List α} {xs : List V} {a : α} {x : V} (r : R a x) (h : Each R l xs) : Each R (a :: l) (x :: xs) := ⟨by rw [List.length_cons, List.length_cons, h.1], fun k b y e g => by
  cases k with
  | zero => cases e; cases g; exact r
  | succ k => exact h.2 k b y e g⟩
theorem Each.app {α : Type} {R : α → V → Prop} {l m : List α} {xs ys : List V} (h : Each R l xs) (g : Each R m ys) : Each R (l ++ m) (xs ++ ys) := by
  refine ⟨by rw [List.length_append, List.length_append, h.1, g.1], fun k r x e f => ?_⟩
  by_cases hk : k < l.length
  · rw [List.getElem?_append_left hk] at e
    rw [List.getElem?_append_left (by rw [h.1]; exact hk)] at f
    exact h.2 k r x e f
  · rw [List.getElem?_append_right (by omega)] at e
    rw [List.getElem?_append_right (by rw [h.1]; omega), h.1] at f
    exact g.2 _ r x e f
theorem Each.snoc {α : Type} {R : α → V → Prop} {l : List α} {xs : List V} {a : α} {x : V} (h : Each R l xs) (r : R a x) : Each R (l ++ [a]) (xs ++ [x]) := h.app (.cons r .nil)
theorem Each.take {α : Type} {R : α → V → Prop} {l : List α} {xs : List V} (h : Each R l xs) (n : Nat) : Each R (l.take n) (xs.take n) := ⟨by rw [List.length_take, List.length_take, h.1], fun k a x e g => by
  rw [List.getElem?_take] at e g
  split at e
  · rename_i hk
    rw [if_pos hk] at g
    exact h.2 k a x e g
  · cases e⟩
theorem Each.drop {α : Type} {R : α → V → Prop} {l : List α} {xs : List V} (h : Each R l xs) (n : Nat) : Each R (l.drop n) (xs.drop n) := ⟨by rw [List.length_drop, List.length_drop, h.1], fun k a x e g => by
  rw [List.getElem?_drop] at e g
  exact h.2 _ a x e g⟩
theorem Each.set {α : Type} {R : α → V → Prop} {l : List α} {xs : List V} {a : α} {x : V} (h : Each R l xs) (n : Nat) (r : R a x) : Each R (l.set n a) (xs.set n x) := ⟨by rw [List.length_set, List.length_set, h.1], fun k b y e g => by
  rw [List.getElem?_set] at e g
  by_cases hk : n = k
  · rw [if_pos hk] at e g
    by_cases hl : n < l.length
    · rw [if_pos hl] at e
      rw [if_pos (by rw [h.1]; exact hl)] at g
      cases e; cases g; exact r
    · rw [if_neg hl] at e
      cases e
  · rw [if_neg hk] at e g
    exact h.2 k b y e g⟩
theorem Each.at {α : Type} {R : α → V → Prop} {l : List α} {xs : List V} {a : α} {k : Nat} (h : Each R l xs) (e : l[k]? = some a) : ∃ x, xs[k]? = some x ∧ R a x := by
  have hk : k < xs.length := by
    rw [h.1]
    exact (List.getElem?_eq_some_iff.mp e).1
  exact ⟨_, List.getElem?_eq_getElem hk, h.2 k a _ e (List.getElem?_eq_getElem hk)⟩
theorem Each.atI {α : Type} {R : α → V → Prop} {l : List α} {xs : List V} {i : Int} (h : Each R l xs) (h0 : 0 ≤ i) (h1 : i < l.length) : ∃ a x, l[i.toNat]? = some a ∧ atI xs i = some x ∧ R a x := by
  have hk : i.toNat < l.length := by omega
  obtain ⟨x, hx, r⟩ := h.at (List.getElem?_eq_getElem hk)
  have q : L2.atI xs ((i.toNat : Nat) : Int) = some x := atI_nat hx
  rw [show ((i.toNat : Nat) : Int) = i by omega] at q
  exact ⟨_, x, List.getElem?_eq_getElem hk, q, r⟩
/-! ### options, positions, arenas -/
abbrev Opt := List Int
abbrev Pos' := List Opt
abbrev Ar := List Pos'
def OptIn (H : Hp) (o : Opt) (v : V) : Prop := ∃ b, v = .ref b ∧ H b = some (.tup (o.map V.int))
def PosIn (H : Hp) (os : Pos') (v : V) : Prop := ∃ b xs, v = .ref b ∧ H b = some (.tup xs) ∧ Each (OptIn H) os xs
def ArIn (H : Hp) (A : Ar) (v : V) : Prop := ∃ b xs, v = .ref b ∧ H b = some (.tup xs) ∧ Each (PosIn H) A xs
theorem OptIn.tp {H H' : Hp} {o : Opt} {v : V} (t : Tp H H') (h : OptIn H o v) : OptIn H' o v := by
  obtain ⟨b, e, q⟩ := h
  exact ⟨b, e, t _ _ q⟩
theorem PosIn.tp {H H' : Hp} {o : Pos'} {v : V} (t : Tp H H') (h : PosIn H o v) : PosIn H' o v := by
  obtain ⟨b, xs, e, q, r⟩ := h
  exact ⟨b, xs, e, t _ _ q, r.mono fun a x => OptIn.tp t⟩
theorem ArIn.tp {H H' : Hp} {o : Ar} {v : V} (t : Tp H H') (h : ArIn H o v) : ArIn H' o v := by
  obtain ⟨b, xs, e, q, r⟩ := h
  exact ⟨b, xs, e, t _ _ q, r.mono fun a x => PosIn.tp t⟩
/-- an option of an arena with n positions -/
structure OptG (n : Int) (o : Opt) : Prop where
  ne : o ≠ []
  len : o.length ≤ 60
  mem : ∀ s ∈ o, -1 ≤ s ∧ s < n
  asc : o.Pairwise (· < ·)
def PosG (n : Int) (os : Pos') : Prop := os.length ≤ 12 ∧ ∀ o ∈ os, OptG n o
def ArG (A : Ar) : Prop := A.length ≤ 400 ∧ ∀ os ∈ A, PosG A.length os
theorem OptG.one {n s : Int} (h0 : -1 ≤ s) (h1 : s < n) : OptG n [s] := ⟨by simp, by simp, fun t ht => by rw [List.mem_singleton.mp ht]; exact ⟨h0, h1⟩, List.pairwise_singleton _ _⟩
theorem asc_of {l m : List Int} (h : l.Perm m) (hm : m.Nodup) (hp : l.Pairwise (· ≤ ·)) : l.Pairwise (· < ·) := by
  have hn : l.Nodup := h.nodup_iff.mpr hm
  refine (hp.and hn).imp fun {a b} h => ?_
  obtain ⟨h1, h2⟩ := h
  omega
theorem tp_put {H H' : Hp} {p : Addr} {o : List V} {o' : HO} (t : Tp H H') (h : H' p = some (.lst o)) : Tp H (upd H' p o') := fun a xs e => by
  have n : a ≠ p := fun q => by
    have := t a xs e
    rw [q, h] at this
    cases this
  rw [upd_ne n]
  exact t a xs e
theorem Go.put2 {d p : Addr} {H H' : Hp} {o : HO} (g : Go d H H') (hp : H p = none) (n : p ≠ d) : Go d H (upd H' p o) := ⟨fun b u hb e => by
  rw [upd_ne (ne_of_none e hp)]
  exact g.fr b u hb e, by
  obtain ⟨ns, e⟩ := g.dr
  exact ⟨ns, by rw [upd_ne n.symm]; exact e⟩⟩
theorem new_ne {d p : Addr} {H : Hp} (h : Dr H d) (hp : H p = none) : p ≠ d := by
  rintro rfl
  obtain ⟨ns, e⟩ := h
  rw [hp] at e
  cases e
theorem Go.free {d p : Addr} {H H' : Hp} (g : Go d H H') (hp : H' p = none) : H p = none := by
  cases e : H p with
  | none => rfl
  | some o =>
    by_cases hd : p = d
    · obtain ⟨ns, q⟩ := g.dr
      rw [hd, q] at hp
      cases hp
    · rw [g.fr p o hd e] at hp
      cases hp
end NL

set_option maxHeartbeats 4000000
namespace NL
open PySem PySem.Spec PyProof.Rows L2
section
variable {P : Program} {w : World} {A : Around} {E : Value → Shared → Prop} {s : Shared}
set_option maxHeartbeats 3200000 in
theorem call_set_ints {l : Addr} {items : Array Value} (ns : List Int) {Q : Value → Shared → Prop} (hh : A.handled = none) (hl : s.heap.IsList l items) (hit : IntsAre items.toList ns) (hb : ns.length + 1 < scanBound)
    (h : ∀ (h' : Heap) (tk c : Nat), SetR w h' s.heap.objs.size (fun j => decide (j ∈ ns)) c → c ≤ ns.length → (∀ b o, s.heap.get? b = some o → h'.get? b = some o) → Q (.ref s.heap.objs.size) { s with heap := h', toks := tk }) :
    wpAny (model P w) A (call (.type "set") [.ref l]) Q E s := by
  have hisz : items.size = ns.length := by
    have q := IntsAre.length hit
    rw [Array.length_toList] at q
    exact q
  obtain ⟨c, tl, hmro⟩ := F.called_set.mro
  have hmade := F.called_set.made
  have hsub := F.called_set.sub
  refine wpAny_call (codeAny_of_tree ?_)
  show wpAny _ _ (callAny (.type "set") _) _ _ _
  refine wpAny_pure ⟨Code.quiet_builtin _ (by decide +kernel), codeAny_builtin F.entry_type_call ?_⟩
  rw [Around.under_plain (weight_type_call_type "set" [.ref l] []) rfl]
  have h1 := F.called_set.notType
  have h2 := F.called_set.canCreate
  have hct := F.typeCall_set_1 (.ref l)
  repeat (any_goals (first | assumption | wp_step))
  refine codeAny_mono (code_set_led1 (.ref l) (E := E) (Q₁ := fun obj s₁ => obj = .ref s.heap.objs.size ∧ s₁ = { s with heap := s.heap.push { cls := .type "set", dict := none, data := .set #[] 0 (.fresh 0 0 (!w.params.followText "set-order")) } }) ⟨rfl, rfl⟩) fun r s₁ hr => ?_
  cases r with
  | error e => exact hr
  | ok fl =>
    cases fl with
    | ret obj =>
      obtain ⟨rfl, rfl⟩ := hr
      have hS : (s.heap.push { cls := .type "set", dict := none, data := .set #[] 0 (.fresh 0 0 (!w.params.followText "set-order")) }).get? s.heap.objs.size = some { cls := .type "set", dict := none, data := .set #[] 0 (.fresh 0 0 (!w.params.followText "set-order")) } := Heap.get?_push_size _ rfl
      have hT : Shared.TypeIs { s with heap := s.heap.push { cls := .type "set", dict := none, data := .set #[] 0 (.fresh 0 0 (!w.params.followText "set-order")) } } (.ref s.heap.objs.size) "set" := ⟨_, hS, rfl⟩
      have hli := F.called_set.init.lookup
      have hbi := F.called_set.init.bind (.ref s.heap.objs.size)
      repeat (any_goals (first | assumption | wp_step))
      refine codeAny_mono (codeAny_call_builtin (R := wants (fun r s₂ => r = .none ∧ ∃ h' tk c, s₂ = { s with heap := h', toks := tk } ∧ SetR w h' s.heap.objs.size (fun j => decide (j ∈ ns)) c ∧ c ≤ ns.length ∧
          (∀ b o, s.heap.get? b = some o → h'.get? b = some o)) E) F.called_set.init.plain F.entry_set_init (check_set_init_1 hT ?_)) fun r₂ s₂ hr₂ => ?_
      · obtain ⟨ol, hol, hcl, nl, hdl⟩ := hl
        obtain ⟨ocls, odict, odata, oslots⟩ := ol
        simp only at hcl hdl
        subst hcl; subst hdl
        have hol' : (s.heap.push { cls := .type "set", dict := none, data := .set #[] 0 (.fresh 0 0 (!w.params.followText "set-order")) }).get? l = some { cls := .type "list", dict := odict, data := .seq items nl, slots := oslots } := Heap.get?_push_of_some _ hol
        have hsls := F.sub_list_set
        have hslf := F.sub_list_frozenset
        have hne : (Value.type "list" == Value.type "dict") = false := by decide
        have hl1 : (s.heap.push { cls := .type "set", dict := none, data := .set #[] 0 (.fresh 0 0 (!w.params.followText "set-order")) }).IsList l items := ⟨_, hol', rfl, nl, rfl⟩
        unfold Builtin.«set.__init__» noKeywords Builtin.Frozenset.updateFrom
        generalize hPI : pyIter = PI
        wp_walk
        subst hPI
        refine wpAny_pyIter_list hl1 ?_
        refine wpAny_bind (wpAny_runValue ?_)
        have hlS : l < s.heap.objs.size := Heap.lt_size hol
        have hh3 : A.in1.in1.in1.handled = none := by simp [hh]
        have hneI : l ≠ (s.heap.push { cls := .type "set", dict := none, data := .set #[] 0 (.fresh 0 0 (!w.params.followText "set-order")) }).objs.size := by
          rw [Heap.size_push]; exact Nat.ne_of_lt (Nat.lt_succ_of_lt hlS)
        have hSf : s.heap.objs.size ∉ [(s.heap.push { cls := .type "set", dict := none, data := .set #[] 0 (.fresh 0 0 (!w.params.followText "set-order")) }).objs.size, l] := by
          rw [Heap.size_push]; simp only [List.mem_cons, List.mem_singleton, List.not_mem_nil, or_false, not_or]
          exact ⟨Nat.ne_of_lt (Nat.lt_succ_self _), Nat.ne_of_gt hlS⟩
        have hval : ∀ (i : Nat) (v : Value), items[i]? = some v → ∃ k t, ns[i]? = some k ∧ v = .int k t := fun i v hv => by
          obtain ⟨n, t, e1, e2⟩ := IntsAre.at hit i v (by rw [Array.getElem?_toList]; exact hv)
          exact ⟨n, t, e2, e1⟩
        refine set_update_ints ((Walks.list hh3 _ l hneI items).toS) s.heap.objs.size
          hSf ns hisz hb hval (items.size - 0) 0 _ (by omega) (Nat.zero_le _)
          ⟨⟨_, Heap.get?_push_size _ rfl, rfl, rfl⟩, (hl1.push _)⟩ ?hS0 ?hR
        case hS0 =>
          have hget : ((s.heap.push { cls := .type "set", dict := none, data := .set #[] 0 (.fresh 0 0 (!w.params.followText "set-order")) }).push { cls := .type "list_iterator", data := .fields #[.ref l, .int 0 0] }).get? s.heap.objs.size
              = some { cls := .type "set", dict := none, data := .set #[] 0 (.fresh 0 0 (!w.params.followText "set-order")) } := Heap.get?_push_of_some _ hS
          exact ⟨0, Nat.le_refl 0, setR_new_at hget⟩
        case hR =>
          intro s' c' hm hc' hS'
          obtain ⟨h', g2, d', tk', os'⟩ := s'
          have eg : g2 = s.gens := hm.gens
          have ed : d' = s.drawn := hm.drawn
          have eo : os' = s.os := hm.os
          subst eg; subst ed; subst eo
          show wpAny _ _ _ _ _ _
          refine wpAny_pure ?_
          show wpAny _ _ (ret Value.none) _ _ _
          rw [hisz] at hc'
          refine wpAny_pure ⟨rfl, h', tk', c', rfl, hS', hc', fun b o e => ?_⟩
          have hb0 : b < s.heap.objs.size := Heap.lt_size e
          have hb1 : b ≠ s.heap.objs.size := Nat.ne_of_lt hb0
          have hb2 : b ≠ (s.heap.push { cls := .type "set", dict := none, data := .set #[] 0 (.fresh 0 0 (!w.params.followText "set-order")) }).objs.size := by
            rw [Heap.size_push]; exact Nat.ne_of_lt (Nat.lt_succ_of_lt hb0)
          exact hm.heap b o (by simp only [List.mem_cons, List.mem_singleton, List.not_mem_nil, or_false, not_or]; exact ⟨hb1, hb2⟩) (Heap.get?_push_of_some _ (Heap.get?_push_of_some _ e))
      · cases r₂ with
        | error e => exact hr₂
        | ok fl₂ =>
          cases fl₂ with
          | ret r =>
            obtain ⟨rfl, h', tk, c', rfl, hS', hc', hk'⟩ := hr₂
            repeat (any_goals (first | assumption | wp_step))
            exact h _ _ _ hS' hc' hk'
          | _ => exact hr₂.elim
    | _ => exact hr.elim
end
variable {X : Cx}
def rSetOfI (K : PySem.W.Frag) (w : World) : List V → Hp → VK → Prop := fun xs H Q => ∃ (l : Addr) (ns : List Int), xs = [.ref l] ∧ SqL K H l (ns.map V.int) ∧ ns.length < 64 ∧ ∀ a c, H a = none → c ≤ ns.length → Q (.ref a) (upd H a (SetO w a (fun j => decide (j ∈ ns)) c))
theorem cr_setOfI (hc : X.calm = true) : CallR X (.type "set") (rSetOfI X.K X.w) := by
  intro pins s σ H xs us Q I r h
  obtain ⟨l, ks, rfl, hl, hf, q⟩ := h
  rw [Vals.ref1 r]
  obtain ⟨its, rv, pl, hz⟩ := I.list hl
  have hn : H s.heap.objs.size = none := I.hok.fresh (Nat.le_refl _)
  refine call_set_ints (P := X.prog) (w := X.w) ks (I.ok.hd hc) pl.isList (by simpa using ints_of_vals rv) (by unfold scanBound; omega) fun h' tk c R hc' k => ?_
  exact ⟨.ref s.heap.objs.size, upd H s.heap.objs.size (SetO X.w s.heap.objs.size _ c), I.laid (t' := tk) k (Nat.le_refl _) (setO_new R), rfl, q _ c hn hc'⟩
end NL

namespace NL
open PySem PySem.Spec PyProof.Rows L2
theorem cut_tl {x : V} {r : List V} : cutV (x :: r) (some 1) none = r := by
  unfold cutV
  rw [show HT.sIx (x :: r).length 0 (some 1) = min 1 (x :: r).length from HT.sIx_nat _ _ 1, HT.sIx_none, List.length_cons, show min 1 (r.length + 1) = 1 by omega]
  simp
theorem asc_lt {l : List Int} (h : l.Pairwise (· < ·)) : l.Nodup := h.imp fun {a b} h e => by omega
theorem newH {H : Hp} {p : Addr} (hp : H p = none) (o : HO) : ∃ H', upd H p o = H' ∧ Same H H' ∧ H' p = some o := ⟨_, rfl, same_new hp _, upd_same⟩
theorem cut_pre {xs : List V} {k : Nat} : cutV xs none (some (k : Int)) = xs.take k := by
  unfold cutV
  rw [HT.sIx_none, show HT.sIx xs.length xs.length (some (k : Int)) = min k xs.length from HT.sIx_nat _ _ _, List.drop_zero, Nat.sub_zero]
  by_cases h : k ≤ xs.length
  · rw [Nat.min_eq_left h]
  · rw [Nat.min_eq_right (by omega), List.take_length, List.take_of_length_le (by omega)]
theorem slA_of {K : PySem.W.Frag} {a : Addr} {xs : List V} {lo hi : Option Int} {H : Hp} {Q : VK} (ha : H a = some (.tup xs)) (q : ∀ p H', Same H H' → H' p = some (.tup (cutV xs lo hi)) → Q (.ref p) H') : rSlA K (.ref a) lo hi H Q := by
  refine ⟨a, xs, rfl, sqt ha, fun h => ?_, fun _ p hp => q p _ (same_new hp _) upd_same⟩
  refine q a H (Same.refl H) ?_
  have : cutV xs lo hi = xs := by
    unfold cutV
    rw [h.1, h.2, List.drop_zero, Nat.sub_zero]
    exact List.take_length
  rw [this]
  exact ha
theorem catA_of {K : PySem.W.Frag} {a b : Addr} {xs ys : List V} {H : Hp} {Q : VK} (ha : H a = some (.tup xs)) (hb : H b = some (.tup ys)) (hl : xs.length + ys.length ≤ 1000) (q : ∀ p H', Same H H' → H' p = some (.tup (xs ++ ys)) → Q (.ref p) H') : rCatA K (.ref a) (.ref b) H Q := by
  refine ⟨a, b, xs, ys, rfl, rfl, sqt ha, sqt hb, big (by omega), fun h => ?_, fun _ h => ?_, fun _ _ p hp => ?_⟩
  · exact q b H (Same.refl H) (by rw [h, List.nil_append]; exact hb)
  · exact q a H (Same.refl H) (by rw [h, List.append_nil]; exact ha)
  · exact q p _ (same_new hp _) upd_same
theorem op_catAK {X : Cx} {K : PySem.W.Frag} (h : X.K = K) : OpR X (binaryOp .Add) (rCatA K) := by subst h; exact op_catA
end NL

set_option maxHeartbeats 4000000
namespace NL
open PySem PySem.Spec PyProof.Rows L2
/-! ### blocks of equal length -/
theorem fm_len {α β : Type} {f : α → List β} {c : Nat} : ∀ {l : List α}, (∀ x ∈ l, (f x).length = c) → (l.flatMap f).length = l.length * c
  | [], _ => by rw [List.flatMap_nil]; show 0 = 0 * c; omega
  | a :: r, h => by
    rw [List.flatMap_cons, List.length_append, fm_len fun x hx => h x (List.mem_cons_of_mem _ hx), h a (List.mem_cons_self ..), List.length_cons, Nat.add_mul]
    omega
theorem fm_at {α β : Type} {f : α → List β} {c : Nat} : ∀ {l : List α} {i j : Nat} {x : α}, (∀ x ∈ l, (f x).length = c) → l[i]? = some x → j < c → (l.flatMap f)[i * c + j]? = (f x)[j]?
  | [], i, j, x, _, h, _ => by cases h
  | a :: r, 0, j, x, h, hx, hj => by
    cases hx
    rw [List.flatMap_cons, Nat.zero_mul, Nat.zero_add, List.getElem?_append_left (by rw [h a (List.mem_cons_self ..)]; exact hj)]
  | a :: r, i + 1, j, x, h, hx, hj => by
    have ha := h a (List.mem_cons_self ..)
    rw [List.flatMap_cons, List.getElem?_append_right (by rw [ha, Nat.succ_mul]; omega), ha, show (i + 1) * c + j - c = i * c + j by rw [Nat.succ_mul]; omega]
    exact fm_at (fun x hx => h x (List.mem_cons_of_mem _ hx)) hx hj
theorem fm_assoc {α β γ : Type} (f : α → List β) (g : β → List γ) : ∀ l : List α, (l.flatMap f).flatMap g = l.flatMap fun x => (f x).flatMap g
  | [] => rfl
  | a :: r => by rw [List.flatMap_cons, List.flatMap_cons, List.flatMap_append, fm_assoc f g r]
theorem fm_map {α β γ : Type} (f : α → β) (g : β → List γ) : ∀ l : List α, (l.map f).flatMap g = l.flatMap fun x => g (f x)
  | [] => rfl
  | a :: r => by rw [List.map_cons, List.flatMap_cons, List.flatMap_cons, fm_map f g r]
theorem map_fm {α β γ : Type} (f : β → γ) (g : α → List β) : ∀ l : List α, (l.flatMap g).map f = l.flatMap fun x => (g x).map f
  | [] => rfl
  | a :: r => by rw [List.flatMap_cons, List.flatMap_cons, List.map_append, map_fm f g r]
theorem fm_congr {α β : Type} {f g : α → List β} : ∀ {l : List α}, (∀ x ∈ l, f x = g x) → l.flatMap f = l.flatMap g
  | [], _ => rfl
  | a :: r, h => by rw [List.flatMap_cons, List.flatMap_cons, h a (List.mem_cons_self ..), fm_congr fun x hx => h x (List.mem_cons_of_mem _ hx)]
/-! ### how many options at most -/
def mst : Ar → Nat
  | [] => 0
  | os :: r => max os.length (mst r)
theorem mst_le : ∀ {A : Ar} {os : Pos'}, os ∈ A → os.length ≤ mst A
  | [], _, h => by cases h
  | a :: r, os, h => by
    rcases List.mem_cons.mp h with rfl | h
    · exact Nat.le_max_left _ _
    · exact Nat.le_trans (mst_le h) (Nat.le_max_right _ _)
theorem mst_ub : ∀ {A : Ar} {n : Nat}, (∀ os ∈ A, os.length ≤ n) → mst A ≤ n
  | [], _, _ => Nat.zero_le _
  | a :: r, n, h => Nat.max_le.mpr ⟨h a (List.mem_cons_self ..), mst_ub fun os ho => h os (List.mem_cons_of_mem _ ho)⟩
theorem mst_eq {A : Ar} {m : Nat} (h0 : A = [] → m = 0) (h1 : A ≠ [] → ∃ os ∈ A, os.length = m) (h2 : ∀ os ∈ A, os.length ≤ m) : m = mst A := by
  by_cases e : A = []
  · rw [h0 e, e]
    rfl
  · obtain ⟨os, ho, hm⟩ := h1 e
    have a := mst_le ho
    have b := mst_ub h2
    omega
/-! ### queues -/
def snQ (m : Nat) (q : List Int) : List (List Int) := (List.range m).map fun i : Nat => q ++ [(i : Int)]
theorem snQ_len (m : Nat) (q : List Int) : (snQ m q).length = m := by unfold snQ; rw [List.length_map, List.length_range]
theorem snQ_at {m i : Nat} {q : List Int} (h : i < m) : (snQ m q)[i]? = some (q ++ [(i : Int)]) := by
  unfold snQ
  rw [List.getElem?_map, List.getElem?_range h]
  rfl
def quF (m : Nat) : Nat → List (List Int)
  | 0 => [[]]
  | d + 1 => (quF m d).flatMap (snQ m)
theorem quF_len (m : Nat) : ∀ d, (quF m d).length = m ^ d
  | 0 => rfl
  | d + 1 => by
    show ((quF m d).flatMap (snQ m)).length = _
    rw [fm_len fun x _ => snQ_len m x, quF_len m d, Nat.pow_succ]
/-- the queue without its last index -/
theorem quF_last {m d z : Nat} {q : List Int} (h : (quF m (d + 1))[z]? = some q) : ∃ q', (quF m d)[z / m]? = some q' ∧ q = q' ++ [((z % m : Nat) : Int)] := by
  have hz := (List.getElem?_eq_some_iff.mp h).1
  rw [quF_len, Nat.pow_succ] at hz
  have hm : 0 < m := by
    rcases Nat.eq_zero_or_pos m with e | e
    · rw [e] at hz; omega
    · exact e
  have hzm : z / m < (quF m d).length := by
    rw [quF_len]
    exact Nat.div_lt_of_lt_mul (by rw [Nat.mul_comm]; exact hz)
  have e := fm_at (f := snQ m) (c := m) (l := quF m d) (i := z / m) (j := z % m) (fun x _ => snQ_len m x) (List.getElem?_eq_getElem hzm) (Nat.mod_lt _ hm)
  rw [show z / m * m + z % m = z by rw [Nat.mul_comm]; exact Nat.div_add_mod z m, snQ_at (Nat.mod_lt _ hm)] at e
  refine ⟨_, List.getElem?_eq_getElem hzm, ?_⟩
  have h' : ((quF m d).flatMap (snQ m))[z]? = some q := h
  rw [h'] at e
  exact Option.some.inj e
/-- .. and without its first one -/
theorem quF_front (m : Nat) : ∀ d, quF m (d + 1) = (List.range m).flatMap fun i : Nat => (quF m d).map fun q => (i : Int) :: q
  | 0 => by
    show ([[]] : List (List Int)).flatMap (snQ m) = (List.range m).flatMap fun i : Nat => [[(i : Int)]]
    rw [List.flatMap_cons, List.flatMap_nil, List.append_nil]
    unfold snQ
    have : ∀ l : List Nat, l.map (fun i : Nat => ([] : List Int) ++ [(i : Int)]) = l.flatMap fun i : Nat => [[(i : Int)]] := fun l => by
      induction l with
      | nil => rfl
      | cons a r ih => rw [List.map_cons, List.flatMap_cons, ih]; rfl
    exact this _
  | d + 1 => by
    refine (congrArg (fun l => l.flatMap (snQ m)) (quF_front m d)).trans ?_
    show ((List.range m).flatMap _).flatMap (snQ m) = _
    rw [fm_assoc]
    refine fm_congr fun i _ => ?_
    rw [fm_map]
    show _ = ((quF m d).flatMap (snQ m)).map _
    rw [map_fm]
    refine fm_congr fun q _ => ?_
    unfold snQ
    rw [List.map_map]
    rfl
theorem quF_first {m d z : Nat} {q : List Int} (h : (quF m (d + 1))[z]? = some q) : ∃ q', (quF m d)[z % m ^ d]? = some q' ∧ q = ((z / m ^ d : Nat) : Int) :: q' := by
  have hz := (List.getElem?_eq_some_iff.mp h).1
  rw [quF_len, Nat.pow_succ] at hz
  have hm : 0 < m ^ d := by
    rcases Nat.eq_zero_or_pos (m ^ d) with e | e
    · rw [e] at hz; omega
    · exact e
  have hzm : z / m ^ d < (List.range m).length := by
    rw [List.length_range]
    exact Nat.div_lt_of_lt_mul hz
  rw [quF_front] at h
  have e := fm_at (f := fun i : Nat => (quF m d).map fun q => (i : Int) :: q) (c := m ^ d) (l := List.range m) (i := z / m ^ d) (j := z % m ^ d) (fun x _ => by rw [List.length_map, quF_len]) (List.getElem?_range (by rw [List.length_range] at hzm; exact hzm)) (Nat.mod_lt _ hm)
  rw [show z / m ^ d * m ^ d + z % m ^ d = z by rw [Nat.mul_comm]; exact Nat.div_add_mod z _, h, List.getElem?_map] at e
  have hl : z % m ^ d < (quF m d).length := by rw [quF_len]; exact Nat.mod_lt _ hm
  rw [List.getElem?_eq_getElem hl] at e
  exact ⟨_, List.getElem?_eq_getElem hl, Option.some.inj e⟩
theorem quF_lenq {m : Nat} : ∀ {d : Nat} {q : List Int}, q ∈ quF m d → q.length = d ∧ ∀ x ∈ q, 0 ≤ x ∧ x < m
  | 0, q, h => by
    rw [List.mem_singleton.mp h]
    exact ⟨rfl, fun x hx => nomatch hx⟩
  | d + 1, q, h => by
    obtain ⟨z, hz⟩ := List.getElem?_of_mem h
    have hm : 0 < m := by
      have hz := (List.getElem?_eq_some_iff.mp hz).1
      rw [quF_len, Nat.pow_succ] at hz
      rcases Nat.eq_zero_or_pos m with e | e
      · rw [e] at hz; omega
      · exact e
    obtain ⟨q', h1, rfl⟩ := quF_last hz
    obtain ⟨h2, h3⟩ := quF_lenq (List.mem_of_getElem? h1)
    refine ⟨by rw [List.length_append, h2]; rfl, fun x hx => ?_⟩
    rcases List.mem_append.mp hx with hx | hx
    · exact h3 x hx
    · rw [List.mem_singleton.mp hx]
      have := Nat.mod_lt z hm
      omega
theorem quF_one : ∀ d, quF 1 d = [List.replicate d 0]
  | 0 => rfl
  | d + 1 => by
    show (quF 1 d).flatMap (snQ 1) = _
    rw [quF_one d, List.flatMap_cons, List.flatMap_nil, List.append_nil]
    show [List.replicate d 0 ++ [((0 : Nat) : Int)]] = _
    rw [List.replicate_succ']
    rfl
theorem quF_zero {d : Nat} (h : 0 < d) : quF 0 d = [] := by
  cases d with
  | zero => omega
  | succ d =>
    have := quF_len 0 (d + 1)
    rw [Nat.pow_succ, Nat.mul_zero] at this
    exact List.length_eq_zero_iff.mp this
/-! ### the delayed arena -/
/-- the option of a pick: c queues, z the number of queue and pick -/
def dlO (os : Pos') (c z : Nat) : Opt := match os[z / c]? with
  | some o => o.map fun a => if a = -1 then -1 else a * (c : Int) + ((z % c : Nat) : Int)
  | none => [-1]
def dlP (m c : Nat) (os : Pos') (num : Nat) : Pos' := (List.range m).map fun pick => dlO os c (num * m + pick)
theorem dlP_len (m c : Nat) (os : Pos') (num : Nat) : (dlP m c os num).length = m := by unfold dlP; rw [List.length_map, List.length_range]
theorem dlP_at {m c num j : Nat} {os : Pos'} (h : j < m) : (dlP m c os num)[j]? = some (dlO os c (num * m + j)) := by
  unfold dlP
  rw [List.getElem?_map, List.getElem?_range h]
  rfl
def dlB (m c : Nat) (os : Pos') : Ar := (List.range c).map (dlP m c os)
theorem dlB_len (m c : Nat) (os : Pos') : (dlB m c os).length = c := by unfold dlB; rw [List.length_map, List.length_range]
def dlA (A : Ar) (d : Nat) : Ar := A.flatMap (dlB (mst A) (mst A ^ d))
theorem dlA_len (A : Ar) (d : Nat) : (dlA A d).length = A.length * mst A ^ d := fm_len fun x _ => dlB_len _ _ x
theorem dlA_at {A : Ar} {d a r : Nat} {os : Pos'} (h : A[a]? = some os) (hr : r < mst A ^ d) : (dlA A d)[a * mst A ^ d + r]? = some (dlP (mst A) (mst A ^ d) os r) := by
  unfold dlA
  rw [fm_at (fun x _ => dlB_len _ _ x) h hr]
  unfold dlB
  rw [List.getElem?_map, List.getElem?_range hr]
  rfl
/-- each place of the delayed arena -/
theorem dlA_get {A : Ar} {d k : Nat} {ps : Pos'} (h : (dlA A d)[k]? = some ps) : ∃ a r os, A[a]? = some os ∧ r < mst A ^ d ∧ k = a * mst A ^ d + r ∧ a < A.length ∧ ps = dlP (mst A) (mst A ^ d) os r := by
  have hk := (List.getElem?_eq_some_iff.mp h).1
  rw [dlA_len] at hk
  have hm : 0 < mst A ^ d := by
    rcases Nat.eq_zero_or_pos (mst A ^ d) with e | e
    · rw [e] at hk; omega
    · exact e
  have ha : k / mst A ^ d < A.length := Nat.div_lt_of_lt_mul (by rw [Nat.mul_comm]; exact hk)
  have hr := Nat.mod_lt k hm
  have hos := List.getElem?_eq_getElem ha
  have e := dlA_at hos hr
  rw [show k / mst A ^ d * mst A ^ d + k % mst A ^ d = k by rw [Nat.mul_comm]; exact Nat.div_add_mod k _, h] at e
  exact ⟨_, _, _, hos, hr, by rw [Nat.mul_comm]; exact (Nat.div_add_mod k _).symm, ha, Option.some.inj e⟩
theorem dl_lt {n : Nat} {a : Int} {c r : Nat} (h0 : 0 ≤ a) (h1 : a < (n : Int)) (hr : r < c) : 0 ≤ a * (c : Int) + (r : Int) ∧ a * (c : Int) + (r : Int) < ((n * c : Nat) : Int) := by
  have h2 : (a + 1) * (c : Int) ≤ (n : Int) * (c : Int) := Int.mul_le_mul_of_nonneg_right (by omega) (by omega)
  rw [Int.add_mul, Int.one_mul] at h2
  have h3 : 0 ≤ a * (c : Int) := Int.mul_nonneg h0 (by omega)
  rw [Int.natCast_mul]
  omega
theorem dlO_good {n c z : Nat} {os : Pos'} (hc : 0 < c) (hG : ∀ o ∈ os, OptG n o) : OptG ((n * c : Nat) : Int) (dlO os c z) := by
  unfold dlO
  cases h : os[z / c]? with
  | none => exact .one (by omega) (by omega)
  | some o =>
    have g := hG o (List.mem_of_getElem? h)
    have hr := Nat.mod_lt z hc
    refine ⟨fun e => g.ne (List.map_eq_nil_iff.mp e), by show (o.map _).length ≤ 60; rw [List.length_map]; exact g.len, fun s hs => ?_, ?_⟩
    · obtain ⟨a, ha, rfl⟩ := List.mem_map.mp hs
      have hm := g.mem a ha
      show -1 ≤ (if a = -1 then -1 else a * (c : Int) + ((z % c : Nat) : Int)) ∧ (if a = -1 then -1 else a * (c : Int) + ((z % c : Nat) : Int)) < _
      by_cases e : a = -1
      · rw [if_pos e]
        omega
      · rw [if_neg e]
        have := dl_lt (c := c) (show 0 ≤ a by omega) hm.2 hr
        omega
    · refine List.pairwise_map.mpr (g.asc.imp_of_mem fun {a b} ha hb hab => ?_)
      have hma := g.mem a ha
      have hb1 : b ≠ -1 := by omega
      rw [if_neg hb1]
      have hb0 : 0 ≤ b * (c : Int) := Int.mul_nonneg (by omega) (by omega)
      by_cases e : a = -1
      · rw [if_pos e]
        omega
      · rw [if_neg e]
        have h2 : (a + 1) * (c : Int) ≤ b * (c : Int) := Int.mul_le_mul_of_nonneg_right (by omega) (by omega)
        rw [Int.add_mul, Int.one_mul] at h2
        omega
theorem dlA_good {A : Ar} {d : Nat} (hl : A.length * mst A ^ d ≤ 400) (hm : mst A ≤ 12) (hG : ∀ os ∈ A, ∀ o ∈ os, OptG A.length o) : ArG (dlA A d) := by
  refine ⟨by rw [dlA_len]; exact hl, fun ps hps => ?_⟩
  obtain ⟨k, hk⟩ := List.getElem?_of_mem hps
  obtain ⟨a, r, os, hos, hr, _, _, rfl⟩ := dlA_get hk
  refine ⟨by rw [dlP_len]; exact hm, fun o ho => ?_⟩
  obtain ⟨j, hj⟩ := List.getElem?_of_mem ho
  have hjm := (List.getElem?_eq_some_iff.mp hj).1
  rw [dlP_len] at hjm
  rw [dlP_at hjm] at hj
  rw [← Option.some.inj hj, dlA_len]
  exact dlO_good (by omega) (hG os (List.mem_of_getElem? hos))
end NL

set_option maxHeartbeats 4000000
namespace NL
open PySem PySem.Spec PyProof.Rows L2
section
variable {P : Program} {w : World} {K : PySem.W.Frag} {mg : Str → Option Value} {base : Heap}
/-! ### _law_small -/
def PosS (n : Int) (os : Pos') : Prop := os.length ≤ 3 ∧ ∀ o ∈ os, OptG n o
def spSmall : Sp := fun vs H Q _ => ∃ (d : Addr) (most : Int), vs = [.ref d, .int most] ∧ Dr H d ∧ 0 ≤ most ∧ most ≤ 6 ∧ ∀ v (A : Ar) H', Go d H H' → ArIn H' A v → (A.length : Int) ≤ most → (∀ os ∈ A, PosS A.length os) → Q v H'
theorem ok_law_small (T : Txt K mg) : FnOk P w K mg base CX0 2 T.a_law_small T.d_law_small P_law_small spSmall := by
  have G_law_take := ok_law_take (P := P) (w := w) (base := base) T
  refine T.F_law_small.ok sc_law_small (fun vs H Q E h => ?_) (fun cdv A outer s H vs Q E hr h => ?_)
  · obtain ⟨d, most, rfl, _⟩ := h
    rfl
  obtain ⟨d, most, rfl, hD, m0, m1, q⟩ := h
  refine ⟨_, (pss_cons (ps_set (i := 2) sc_law_small.nd rfl (Or.inl rfl) (pe_call G_law_take (hr.mono (by omega)) (by rfl) T.m_law_take T.F_law_take.kp T.b_law_take .nil pass0 (pa_cons (pv 0) (pa_cons (pe_op op_add (pv 1) pe_int) pa_nil))))
    (pss_cons (ps_set (i := 3) sc_law_small.nd rfl (Or.inl rfl) (pe_ix ix_list (pe_lst (pa_cons pe_int (pa_cons pe_int (pa_cons pe_int pa_nil)))) (pe_call G_law_take (hr.mono (by omega)) (by rfl) T.m_law_take T.F_law_take.kp T.b_law_take .nil pass0 (pa_cons (pv 0) (pa_cons pe_int pa_nil))) (fun _ _ => rfl)))
    (pss_cons (ps_set (i := 4) sc_law_small.nd rfl (Or.inl rfl) (pe_lst pa_nil))
    (pss_cons (ps_for  PassesOwn.never rfl (pi_range1 (by rfl) T.z_range (pa_cons (pv 2) pa_nil)) (pg_name (i := 5) sc_law_small.nd rfl (Or.inl rfl))
    (pss_cons (ps_set (i := 6) sc_law_small.nd rfl (Or.inl rfl) (pe_lst pa_nil))
    (pss_cons (ps_for  PassesOwn.never rfl (pi_range1 (by rfl) T.z_range (pa_cons (pe_ix ix_list (pe_lst (pa_cons pe_int (pa_cons pe_int (pa_cons pe_int (pa_cons pe_int (pa_cons pe_int (pa_cons pe_int pa_nil))))))) (pe_call G_law_take (hr.mono (by omega)) (by rfl) T.m_law_take T.F_law_take.kp T.b_law_take .nil pass0 (pa_cons (pv 0) (pa_cons pe_int pa_nil))) (fun _ _ => rfl)) pa_nil)) (pg_name (i := 7) sc_law_small.nd rfl (Or.inl rfl))
    (pss_cons (ps_set (i := 8) sc_law_small.nd rfl (Or.inl rfl) (pe_lst pa_nil))
    (pss_cons (ps_for  PassesOwn.never rfl (pi_range1 (by rfl) T.z_range (pa_cons (pe_op op_add pe_int (pe_ix ix_list (pe_lst (pa_cons pe_int (pa_cons pe_int (pa_cons pe_int (pa_cons pe_int (pa_cons pe_int pa_nil)))))) (pe_call G_law_take (hr.mono (by omega)) (by rfl) T.m_law_take T.F_law_take.kp T.b_law_take .nil pass0 (pa_cons (pv 0) (pa_cons pe_int pa_nil))) (fun _ _ => rfl))) pa_nil)) (pg_name (i := 9) sc_law_small.nd rfl (Or.inl rfl))
    (pss_cons (ps_set (i := 10) sc_law_small.nd rfl (Or.inl rfl) (pe_call G_law_take (hr.mono (by omega)) (by rfl) T.m_law_take T.F_law_take.kp T.b_law_take .nil pass0 (pa_cons (pv 0) (pa_cons (pe_op op_mul (pv 2) (pv 3)) pa_nil))))
    (pss_cons (ps_set (i := 11) sc_law_small.nd rfl (Or.inl rfl) (pe_op op_fdiv (pv 10) (pv 3)))
    (C8.pss_cut (ps_if (pt_cmpR op_eq (pe_op op_mod (pe_callTy call_int1 (by rfl) T.z_int (by decide +kernel) (pa_cons (pv 10) pa_nil)) (pv 3)) pe_int (nomark _))
    (pss_one (ps_set (i := 11) sc_law_small.nd rfl (Or.inl rfl) (pe_un un_neg pe_int)))
    pss_nil)
    (pss_one (ps_if (pt_cmpR op_notIn_seq (pv 11) (pv 8) (by rfl))
    (pss_one (ps_expr (pe_bm PySem.F.plainAttrs_list PySem.F.slot_list_append PySem.F.type_list_append mt_append (pv 8) (pa_cons (pv 11) pa_nil))))
    pss_nil))))))
    (pss_one (ps_expr (pe_bm PySem.F.plainAttrs_list PySem.F.slot_list_append PySem.F.type_list_append mt_append (pv 6) (pa_cons (pe_callTy call_tuple_of (by rfl) T.z_tuple (by decide +kernel) (pa_cons (pe_callB (cr_sorted) (by rfl) T.z_sorted (by decide +kernel) (pa_cons (pv 8) pa_nil)) pa_nil)) pa_nil)))))))
    (pss_one (ps_expr (pe_bm PySem.F.plainAttrs_list PySem.F.slot_list_append PySem.F.type_list_append mt_append (pv 4) (pa_cons (pe_callTy call_tuple_of (by rfl) T.z_tuple (by decide +kernel) (pa_cons (pv 6) pa_nil)) pa_nil)))))))
    (pss_one (ps_ret (pe_callTy call_tuple_of (by rfl) T.z_tuple (by decide +kernel) (pa_cons (pv 4) pa_nil)))))))), ?_⟩
  refine ⟨_, rfl, _, rfl, _, _, rfl, rfl, d, _, rfl, hD, by omega, fun n H1 g1 n0 n1 => ?_⟩
  have hnm : n ≤ most := by
    have : n < most + 1 := n1
    omega
  refine ⟨Nat.le_of_ble_eq_true rfl, fun rl hrl => ?_⟩
  have nrl := new_ne g1.dr hrl
  obtain ⟨H2, e2, s2, k2⟩ := newH hrl (.lst ([5, 20, 100].map V.int))
  rw [show upd H1 rl (.lst [.int 5, .int 20, .int 100]) = H2 from e2]
  have g2 := g1.trans (.same g1.dr s2)
  refine ⟨_, rfl, d, 3, rfl, g2.dr, by decide, fun u H3 g3 u0 u1 => ?_⟩
  obtain ⟨rare, hrm, hrmm⟩ := atI_map (f := V.int) (xs := ([5, 20, 100] : List Int)) u0 u1
  have hr3 : 0 < rare ∧ rare ≤ 100 := by
    simp only [List.mem_cons, List.not_mem_nil, or_false] at hrmm
    omega
  refine ⟨rl, _, _, _, rfl, rfl, sqd (g3.fr rl _ nrl k2), hrm, ?_⟩
  have g13 := g2.trans g3
  refine ⟨Nat.zero_le _, fun p hp => ?_⟩
  have hpd := new_ne g3.dr hp
  have hp0 := g13.free hp
  obtain ⟨H5, e5, s5, k5⟩ := newH hp (.lst [])
  rw [e5]
  have g15 := g13.trans (.same g3.dr s5)
  refine ⟨_, rfl, n, rfl, by omega, by omega, for_range (lo := 0) (n := n.toNat) (fun (j : Nat) (σ : L2.St) (H' : Hp) => ∃ (xs : List V) (A' : Ar) (y5 y6 y7 y8 y9 y10 y11 : Option V), σ = [some (.ref d), some (.int most), some (.int n), some (.int rare), some (.ref p), y5, y6, y7, y8, y9, y10, y11] ∧ Go d H H' ∧ H' p = some (.lst xs) ∧ Each (PosIn H') A' xs ∧ A'.length = j ∧ ∀ os ∈ A', PosS n os) ?_ ?_ ?_⟩
  · exact ⟨[], [], none, none, none, none, none, none, none, rfl, g15, k5, .nil, rfl, fun os h => nomatch h⟩
  · rintro j σ H7 hj ⟨xs, A', y5, y6, y7, y8, y9, y10, y11, rfl, g7, e7, hxs, hA, hG⟩
    have hn0 : 0 < n := by omega
    generalize hk : (0 : Int) + (j : Int) = k
    refine ⟨Nat.zero_le _, fun ol hol => ?_⟩
    have nol := new_ne g7.dr hol
    obtain ⟨H8, e8, s8, k8⟩ := newH hol (.lst [])
    rw [e8]
    have g78 := Go.same g7.dr s8
    refine ⟨Nat.le_of_ble_eq_true rfl, fun ml hml => ?_⟩
    have nml := new_ne g78.dr hml
    obtain ⟨H8b, e8b, s8b, k8b⟩ := newH hml (.lst ([0, 1, 1, 2, 2, 3].map V.int))
    rw [show upd H8 ml (.lst [.int 0, .int 1, .int 1, .int 2, .int 2, .int 3]) = H8b from e8b]
    have g78b := g78.trans (.same g78.dr s8b)
    refine ⟨_, rfl, d, 6, rfl, g78b.dr, by decide, fun u4 H9 g9 a4 b4 => ?_⟩
    obtain ⟨mm, hmm, hmmem⟩ := atI_map (f := V.int) (xs := ([0, 1, 1, 2, 2, 3] : List Int)) a4 b4
    have hmb : 0 ≤ mm ∧ mm ≤ 3 := by
      simp only [List.mem_cons, List.not_mem_nil, or_false] at hmmem
      omega
    refine ⟨ml, _, _, _, rfl, rfl, sqd (g9.fr ml _ nml k8b), hmm, mm, rfl, by omega, by omega, ?_⟩
    have g79 := g78b.trans g9
    have e9p := g9.fr p _ hpd ((s8.trans s8b) _ _ e7)
    have e9o := g9.fr ol _ nol (s8b _ _ k8)
    have hol7 : H7 ol = none := hol
    refine for_range (lo := 0) (n := mm.toNat) (fun (i : Nat) (σ : L2.St) (H' : Hp) => ∃ (zs : List V) (os : Pos') (y7 y8 y9 y10 y11 : Option V), σ = [some (.ref d), some (.int most), some (.int n), some (.int rare), some (.ref p), some (.int k), some (.ref ol), y7, y8, y9, y10, y11] ∧ Go d H7 H' ∧ H' ol = some (.lst zs) ∧ Each (OptIn H') os zs ∧ os.length = i ∧ ∀ o ∈ os, OptG n o) ?_ ?_ ?_
    · exact ⟨[], [], y7, y8, y9, y10, y11, rfl, g79, e9o, .nil, rfl, fun o h => nomatch h⟩
    · rintro i σ H10 hi ⟨zs, os, y7, y8, y9, y10, y11, rfl, g10, e10, hzs, hos, hG2⟩
      generalize hk2 : (0 : Int) + (i : Int) = k2
      refine ⟨Nat.zero_le _, fun fl hfl => ?_⟩
      have nfl := new_ne g10.dr hfl
      obtain ⟨H11, e11, s11, k11⟩ := newH hfl (.lst [])
      rw [e11]
      have ga := Go.same g10.dr s11
      refine ⟨Nat.le_of_ble_eq_true rfl, fun l5 hl5 => ?_⟩
      obtain ⟨H12, e12, s12, k12⟩ := newH hl5 (.lst ([0, 0, 1, 2, 4].map V.int))
      rw [show upd H11 l5 (.lst [.int 0, .int 0, .int 1, .int 2, .int 4]) = H12 from e12]
      have gb := ga.trans (.same ga.dr s12)
      refine ⟨_, rfl, d, 5, rfl, gb.dr, by decide, fun u5 H13 g13' a5 b5 => ?_⟩
      have n5 := new_ne ga.dr hl5
      obtain ⟨mf, hmf, hmfm⟩ := atI_map (f := V.int) (xs := ([0, 0, 1, 2, 4] : List Int)) a5 b5
      have hmf3 : 0 ≤ mf ∧ mf ≤ 4 := by
        simp only [List.mem_cons, List.not_mem_nil, or_false] at hmfm
        omega
      refine ⟨l5, _, _, _, rfl, rfl, sqd (g13'.fr l5 _ n5 k12), hmf, _, _, rfl, rfl, 1 + mf, rfl, by omega, by omega, ?_⟩
      have gc2 := gb.trans g13'
      have ef13 := g13'.fr fl _ nfl (s12 _ _ k11)
      refine for_range (lo := 0) (n := (1 + mf).toNat) (fun (i : Nat) (σ : L2.St) (H' : Hp) => ∃ (fs : List Int) (y9 y10 y11 : Option V), σ = [some (.ref d), some (.int most), some (.int n), some (.int rare), some (.ref p), some (.int k), some (.ref ol), some (.int k2), some (.ref fl), y9, y10, y11] ∧ Go d H10 H' ∧ H' fl = some (.lst (fs.map V.int)) ∧ fs.Nodup ∧ fs.length ≤ i ∧ (∀ s ∈ fs, -1 ≤ s ∧ s < n) ∧ (0 < i → fs ≠ [])) ?_ ?_ ?_
      · exact ⟨[], y9, y10, y11, rfl, gc2, ef13, List.nodup_nil, Nat.zero_le _, fun s h => (nomatch h), fun h => absurd h (by omega)⟩
      · rintro t σ H14 ht ⟨fs, y9, y10, y11, rfl, g14', e14, hnd, hlen, hmem, hne⟩
        generalize hk3 : (0 : Int) + (t : Int) = k3
        have hpos : 0 < n * rare := Int.mul_pos hn0 hr3.1
        refine ⟨_, rfl, _, rfl, _, rfl, _, _, rfl, rfl, .inl ⟨by omega, by omega⟩, d, n * rare, rfl, g14'.dr, hpos, fun dr H15 g15' d0 d1 => ?_⟩
        refine ⟨_, rfl, _, rfl, _, _, rfl, rfl, ⟨hr3.1, by omega⟩, ?_⟩
        have hq0 : 0 ≤ dr / rare := Int.ediv_nonneg d0 (by omega)
        have hq1 : dr / rare < n := Int.ediv_lt_of_lt_mul hr3.1 d1
        have e15 := g15'.fr fl _ nfl e14
        have g1015 := g14'.trans g15'
        refine ⟨fun σ H' => ∃ sc : Int, σ = [some (.ref d), some (.int most), some (.int n), some (.int rare), some (.ref p), some (.int k), some (.ref ol), some (.int k2), some (.ref fl), some (.int k3), some (.int dr), some (.int sc)] ∧ H' = H15 ∧ -1 ≤ sc ∧ sc < n, ?_, ?_⟩
        · refine ⟨_, rfl, .inl ⟨_, rfl, _, rfl, _, _, rfl, rfl, hr3.1, rfl, _, rfl, ?_⟩⟩
          refine ite2 (fun z => ?_) (fun z => ?_)
          · exact ⟨_, rfl, -1, rfl, rfl, by omega, by omega⟩
          · exact ⟨_, rfl, rfl, by omega, hq1⟩
        rintro σ H16 ⟨sc, rfl, rfl, c0, c1⟩
        refine ⟨_, rfl, _, rfl, fl, _, rfl, .inl (sqd e15), rfl, flat_ints' fs, _, rfl, ?_⟩
        by_cases hin : sc ∈ fs
        · refine ifF (by rw [notIn_int, decide_eq_true hin] <;> rfl) ?_
          exact ⟨fs, _, _, _, rfl, g1015, e15, hnd, by omega, hmem, fun _ e => by rw [e] at hin; cases hin⟩
        · refine ifT (by rw [notIn_int, decide_eq_false hin] <;> rfl) ?_
          refine ⟨_, rfl, .inl ⟨rfl, _, sqd e15⟩, _, rfl, fl, _, _, rfl, rfl, e15, big' (by rw [List.length_map]; omega), ?_⟩
          refine ⟨fs ++ [sc], _, _, _, rfl, g1015.put2 hfl nfl, by rw [upd_same, List.map_append]; rfl, ?_, ?_, ?_, fun _ => by simp⟩
          · exact List.nodup_append.mpr ⟨hnd, by simp, fun a ha b hb e => hin (by rw [← List.mem_singleton.mp hb, ← e]; exact ha)⟩
          · rw [List.length_append]
            exact Nat.add_le_add_right hlen 1
          · intro s hs
            rcases List.mem_append.mp hs with hs | hs
            · exact hmem s hs
            · rw [List.mem_singleton.mp hs]
              exact ⟨c0, c1⟩
      · rintro σ H14 ⟨fs, y9, y10, y11, rfl, g14', e14, hnd, hlen, hmem, hne⟩
        have hfl64 : fs.length ≤ 5 := by omega
        have e14o := g14'.fr ol _ nol e10
        refine ⟨_, rfl, .inl ⟨rfl, _, sqd e14o⟩, _, rfl, fl, fs, rfl, sqd e14, by omega, fun ns q1 hperm hpw hq1 => ?_⟩
        obtain ⟨Hd, ed, sd, kd⟩ := newH hq1 (.lst (ns.map V.int))
        rw [ed]
        refine ⟨q1, _, rfl, .inl ⟨sqd kd, fun t2 ht2 => ?_⟩⟩
        obtain ⟨He, ee, se, ke⟩ := newH ht2 (.tup (ns.map V.int))
        rw [ee]
        have sde := sd.trans se
        have eoe := sde _ _ e14o
        refine ⟨ol, zs, _, rfl, rfl, eoe, big' (by have := hzs.1; omega), ?_⟩
        have ge := g14'.trans (.same g14'.dr sde)
        have tpx : Tp H10 (upd He ol (.lst (zs ++ [.ref t2]))) := tp_put (ge.tp g10.dr) eoe
        have nt2 : t2 ≠ ol := fun e => by
          rw [e, sd _ _ e14o] at ht2
          cases ht2
        refine ⟨zs ++ [.ref t2], os ++ [ns], _, _, _, _, _, rfl, (g10.trans ge).put2 hol7 nol, upd_same, ?_, by rw [List.length_append, hos]; rfl, ?_⟩
        · refine (hzs.mono fun o x => OptIn.tp tpx).snoc ⟨t2, rfl, ?_⟩
          rw [upd_ne nt2]
          exact ke
        · intro o ho
          rcases List.mem_append.mp ho with ho | ho
          · exact hG2 o ho
          · rw [List.mem_singleton.mp ho]
            refine ⟨fun e => ?_, by have := hperm.length_eq; omega, fun s hs => hmem s (hperm.mem_iff.mp hs), asc_of hperm hnd hpw⟩
            rw [e] at hperm
            exact hne (by omega) hperm.symm.eq_nil
    · rintro σ H10 ⟨zs, os, y7, y8, y9, y10, y11, rfl, g10, e10, hzs, hos, hG2⟩
      have e10p := g10.fr p _ hpd e7
      have hxl := hxs.1
      refine ⟨_, rfl, .inl ⟨rfl, _, sqd e10p⟩, _, rfl, ol, zs, rfl, .inl ⟨sqd e10, fun t ht => ?_⟩⟩
      have st := same_new ht (.tup zs)
      have ept := st _ _ e10p
      have gt := (g7.trans g10).trans (.same (g7.trans g10).dr st)
      have ntp : t ≠ p := fun e => by
        rw [e, e10p] at ht
        cases ht
      refine ⟨p, xs, _, rfl, rfl, ept, big' (by omega), ?_⟩
      refine ⟨xs ++ [.ref t], A' ++ [os], some (.int k), some (.ref ol), _, _, _, _, _, rfl, gt.put2 hp0 hpd, upd_same, ?_, by rw [List.length_append, hA]; rfl, ?_⟩
      · have tp : Tp H7 (upd (upd H10 t (.tup zs)) p (.lst (xs ++ [.ref t]))) := tp_put ((g10.tp g7.dr).trans (Tp.same st)) ept
        refine (hxs.mono fun o x => PosIn.tp tp).snoc ⟨t, zs, rfl, ?_, ?_⟩
        · rw [upd_ne ntp]
          exact upd_same
        · exact hzs.mono fun o x => OptIn.tp (tp_put (Tp.same st) ept)
      · intro o ho
        rcases List.mem_append.mp ho with ho | ho
        · exact hG o ho
        · rw [List.mem_singleton.mp ho]
          exact ⟨by omega, hG2⟩
  · rintro σ H8 ⟨xs, A', y5, y6, y7, y8, y9, y10, y11, rfl, g8, e8, hxs, hA, hG⟩
    refine ⟨_, rfl, p, xs, rfl, .inl ⟨sqd e8, fun t ht => ?_⟩⟩
    have st := same_new ht (.tup xs)
    refine q _ A' _ (g8.trans (.same g8.dr st)) ⟨t, xs, rfl, upd_same, hxs.mono fun os x => PosIn.tp (.same st)⟩ (by omega) fun os h => ?_
    rw [show (A'.length : Int) = n by omega]
    exact hG os h
end
end NL

set_option maxHeartbeats 4000000
namespace NL
open PySem PySem.Spec PyProof.Rows L2
/-! ### max and min of a list of ints with a default -/
def rMaxDf (K : PySem.W.Frag) : List V → List V → Hp → VK → Prop := fun vs zs H Q => ∃ (a : Addr) (ns : List Int) (d : Int), vs = [V.ref a] ∧ zs = [V.int d] ∧ SqL K H a (ns.map V.int) ∧ ∀ m, (ns = [] → m = d) → (ns ≠ [] → m ∈ ns ∧ ∀ y, y ∈ ns → y ≤ m) → Q (.int m) H
def rMinDf (K : PySem.W.Frag) : List V → List V → Hp → VK → Prop := fun vs zs H Q => ∃ (a : Addr) (ns : List Int) (d : Int), vs = [V.ref a] ∧ zs = [V.int d] ∧ SqL K H a (ns.map V.int) ∧ ∀ m, (ns = [] → m = d) → (ns ≠ [] → m ∈ ns ∧ ∀ y, y ∈ ns → m ≤ y) → Q (.int m) H
theorem ints_at {ns : List Int} {its : List Value} (rv : L2.Vals (ns.map V.int) its) {i : Nat} {v : Value} (h : its.toArray[i]? = some v) : ∃ n t, ns[i]? = some n ∧ v = .int n t := by
  have hv2 : its[i]? = some v := by simpa using h
  have hil := (List.getElem?_eq_some_iff.mp hv2).1
  have hl := rv.length
  rw [List.length_map] at hl
  have hn := List.getElem?_eq_getElem (show i < ns.length by omega)
  obtain ⟨u, hu1, ru⟩ := rv.get (i := i) (x := V.int ns[i]) (by rw [List.getElem?_map, hn]; rfl)
  rw [hv2] at hu1
  cases hu1
  obtain ⟨t, rfl⟩ := ru
  exact ⟨_, t, hn, rfl⟩
theorem cr_maxDf {X : Cx} (hc : X.calm = true) : CallRK X (.builtin "max") [Str.ofString "default"] (rMaxDf X.K) := by
  intro pins s σ H vs zs us ws Q I r rz h
  obtain ⟨a, ns, d, rfl, rfl, hs, q⟩ := h
  obtain ⟨its, rv, hl, _⟩ := I.list hs
  rw [Vals.ref1 r]
  obtain ⟨w1, rfl, e1⟩ := vals1 rz
  obtain ⟨td, rfl⟩ := e1
  have hitl := rv.length
  rw [List.length_map] at hitl
  refine call_max_walkD (PySem.W.iter_listW (A := X.A.in1) (I.ok.hd hc) hl.isList fun s₂ e W st hfp hw hk => ?_)
  refine ⟨_, _, _, _, _, _, _, s.heap, (fun i j => decide (ns.getD i 0 > ns.getD j 0)), rfl, W, st, hfp, hw, hk, fun hn s' m => ?_, fun hn => ⟨?_, fun v s' hP m => ?_⟩⟩
  · obtain ⟨h', tk, rfl, hk'⟩ := PySem.W.moved_old e rfl m
    have hne : ns = [] := List.length_eq_zero_iff.mp (by rw [List.size_toArray] at hn; omega)
    exact ⟨.int d, H, I.kept hk', ⟨_, rfl⟩, q d (fun _ => rfl) (fun h => absurd hne h)⟩
  · intro i j vi vj s' Q' E' hk' hi hj hQ
    obtain ⟨n1, t1, h1, rfl⟩ := ints_at rv hi
    obtain ⟨n2, t2, h2, rfl⟩ := ints_at rv hj
    refine PySem.SiftDown.gt_int ?_
    have hQ2 : Q' (.bool (decide (ns.getD i 0 > ns.getD j 0))) s' := hQ
    rw [show ns.getD i 0 = n1 by rw [List.getD_eq_getElem?_getD, h1]; rfl, show ns.getD j 0 = n2 by rw [List.getD_eq_getElem?_getD, h2]; rfl] at hQ2
    exact hQ2
  · obtain ⟨h', tk, rfl, hk'⟩ := PySem.W.moved_old e rfl m
    obtain ⟨b1, b2⟩ := argBest_gt (fun i => ns.getD i 0) (its.toArray.size - 1)
    obtain ⟨n, t, h1, rfl⟩ := ints_at rv hP
    refine ⟨.int n, H, I.kept hk', ⟨_, rfl⟩, q n (fun h => by rw [h] at h1; cases h1) fun _ => ⟨List.mem_of_getElem? h1, fun y hy => ?_⟩⟩
    obtain ⟨j, hj⟩ := List.getElem?_of_mem hy
    have hjl := (List.getElem?_eq_some_iff.mp hj).1
    have h3 := b2 j (by rw [List.size_toArray]; omega)
    have h4 : ns.getD (argBest (fun i j => decide (ns.getD i 0 > ns.getD j 0)) (its.toArray.size - 1)) 0 = n := by rw [List.getD_eq_getElem?_getD, h1]; rfl
    have h5 : ns.getD j 0 = y := by rw [List.getD_eq_getElem?_getD, hj]; rfl
    rw [← h5, ← h4]
    exact h3
/-! ### two loops in one -/
theorem loop_list {K : PySem.W.Frag} {a : Addr} {xs : List V} {Qd : Hp → Prop} {H0 : Hp} {G : V → Hp → (Hp → Prop) → Prop} (Pv : Nat → Hp → Prop) (h0 : Pv 0 H0) (hl : ∀ i H, Pv i H → SqL K H a xs)
    (hs : ∀ i x H, xs[i]? = some x → Pv i H → G x H (Pv (i + 1))) (hd : ∀ H, Pv xs.length H → Qd H) :
    ∃ W : Nat → Nat → Hp → Prop, (∃ m, W 0 m H0) ∧ ∀ i m H, W i m H → ((Itl K a).stop i H ∧ Qd H) ∨ ((Itl K a).go i H ∧ ∃ Nx : Hp → Prop, (∀ H', Nx H' → ∃ m', m' < m ∧ W (i + 1) m' H') ∧ ∀ x H', (Itl K a).yld i H x H' → G x H' Nx) := by
  refine ⟨fun i m H => m + i = xs.length ∧ Pv i H, ⟨xs.length, rfl, h0⟩, ?_⟩
  rintro i m H ⟨hi, p⟩
  have q := hl i H p
  by_cases lt : i < xs.length
  · have ex : xs[i]? = some xs[i] := List.getElem?_eq_getElem lt
    refine .inr ⟨⟨xs, _, q, ex⟩, Pv (i + 1), fun H' p' => ⟨m - 1, by omega, by omega, p'⟩, fun x H' y => ?_⟩
    obtain ⟨e, y⟩ := y
    subst e
    exact hs i x _ (y xs q) p
  · have e : i = xs.length := by omega
    subst e
    exact .inl ⟨⟨xs, q, Nat.le_refl _⟩, hd H p⟩
theorem loop_range {lo : Int} {n : Nat} {Qd : Hp → Prop} {H0 : Hp} {G : V → Hp → (Hp → Prop) → Prop} (Pv : Nat → Hp → Prop) (h0 : Pv 0 H0)
    (hs : ∀ (i : Nat) H, i < n → Pv i H → G (.int (lo + (i : Int))) H (Pv (i + 1))) (hd : ∀ H, Pv n H → Qd H) :
    ∃ W : Nat → Nat → Hp → Prop, (∃ m, W 0 m H0) ∧ ∀ i m H, W i m H → ((Itr lo n).stop i H ∧ Qd H) ∨ ((Itr lo n).go i H ∧ ∃ Nx : Hp → Prop, (∀ H', Nx H' → ∃ m', m' < m ∧ W (i + 1) m' H') ∧ ∀ x H', (Itr lo n).yld i H x H' → G x H' Nx) := by
  refine ⟨fun i m H => m + i = n ∧ Pv i H, ⟨n, rfl, h0⟩, ?_⟩
  rintro i m H ⟨hi, p⟩
  by_cases lt : i < n
  · refine .inr ⟨lt, Pv (i + 1), fun H' p' => ⟨m - 1, by omega, by omega, p'⟩, fun x H' y => ?_⟩
    obtain ⟨e, e2⟩ := y
    subst e e2
    exact hs i _ lt p
  · have e : i = n := by omega
    subst e
    exact .inl ⟨Nat.le_refl _, hd H p⟩
theorem pi_listK {X : Cx} {K : PySem.W.Frag} {tg l : Expr} {tl : TE} (h : X.K = K) (e : PE X l tl) : PI X tg l (iList K tl) := by
  subst h
  exact pi_list e
end NL

set_option maxHeartbeats 4000000
namespace NL
open PySem PySem.Spec PyProof.Rows L2
/-! ### a tuple times a number of any sign -/
theorem tuple_mul1 (l : Addr) (items : Array Value) (n : Nat) (dd : Option Addr) (sl : Array (Option Value)) (x : Int) (u : Tok) (c0 : (decide (x < -(2 ^ 63)) || decide (x ≥ 2 ^ 63)) = false) (c1 : (items.isEmpty || x == 1) = true) :
    Meets (Builtin.«tuple.__mul__» ⟨[.ref l, .int x u], []⟩) (fun _ R s => s.heap.get? l = some { cls := .type "tuple", dict := dd, data := .seq items n, slots := sl } ∧
      R (.ok (.ret (Value.ref l))) s) :=
  .of_wp fun prog w A R s h => by
    obtain ⟨hp, g, d, tk, os⟩ := s
    obtain ⟨hl, h⟩ := h
    have f1 := AutoSeq1.idx_int
    wp_walk using wpAny_loadPart' hl
    repeat (first
      | (refine wpAny_ite_false (decide_eq_false (by rw [c0]; exact Bool.false_ne_true)) ?_; wp_walk using wpAny_loadPart' hl)
      | (refine wpAny_ite_true (decide_eq_true c1) ?_; wp_walk using wpAny_loadPart' hl))
    exact ⟨_, rfl, h⟩
theorem tuple_mul0 (l : Addr) (items : Array Value) (n : Nat) (dd : Option Addr) (sl : Array (Option Value)) (x : Int) (u : Tok) (c0 : (decide (x < -(2 ^ 63)) || decide (x ≥ 2 ^ 63)) = false) (c1 : (items.isEmpty || x == 1) = false) (c2 : (decide (x ≤ 0) || items.isEmpty) = true) :
    Meets (Builtin.«tuple.__mul__» ⟨[.ref l, .int x u], []⟩) (fun _ R s => s.heap.get? l = some { cls := .type "tuple", dict := dd, data := .seq items n, slots := sl } ∧
      R (.ok (.ret (Value.ref s.heap.objs.size))) { s with heap := s.heap.push { cls := Value.type "tuple", data := Data.seq #[] }, toks := s.toks }) :=
  .of_wp fun prog w A R s h => by
    obtain ⟨hp, g, d, tk, os⟩ := s
    obtain ⟨hl, h⟩ := h
    have f1 := AutoSeq1.idx_int
    wp_walk using wpAny_loadPart' hl
    repeat (first
      | (refine wpAny_ite_false (decide_eq_false (by rw [c0]; exact Bool.false_ne_true)) ?_; wp_walk using wpAny_loadPart' hl)
      | (refine wpAny_ite_false (decide_eq_false (by rw [c1]; exact Bool.false_ne_true)) ?_; wp_walk using wpAny_loadPart' hl)
      | (refine wpAny_ite_true (decide_eq_true c2) ?_; wp_walk using wpAny_loadPart' hl))
    exact ⟨_, rfl, h⟩
def rRepZ (K : PySem.W.Frag) : R2 := fun x y H Q => ∃ l k xs, x = .ref l ∧ y = .int k ∧ SqT K H l xs ∧ xs ≠ [] ∧ -1000 ≤ k ∧ k ≤ 1000 ∧ xs.length ≤ 1000 ∧ (k = 1 → Q (.ref l) H) ∧ (k ≠ 1 → ∀ p, H p = none → Q (.ref p) (upd H p (.tup (List.replicate k.toNat xs).flatten)))
theorem op_repZ {X : Cx} : OpR X (binaryOp .Mult) (rRepZ X.K) := by
  intro pins s σ H x y v u Q I rx ry h
  obtain ⟨l, k, xs, rfl, rfl, hT, hne, h1, h2, hz, q1, q⟩ := h
  by_cases hk2 : 2 ≤ k
  · exact op_repT pins s σ H _ _ v u Q I rx ry ⟨l, k, xs, rfl, rfl, hT, hne, hk2, h2, hz, q (by omega)⟩
  cases rx
  obtain ⟨t, rfl⟩ := ry
  obtain ⟨its, r, ⟨⟨cls, dd, data, sl⟩, ho, hc, n, hd⟩, hs⟩ := I.tuple hT
  simp only at hc hd
  subst hc hd
  have hle : its.length = xs.length := r.length.symm
  have hn : its ≠ [] := fun e => hne (by
    rw [e] at hle
    exact List.eq_nil_of_length_eq_zero hle.symm)
  have hi : its.toArray.isEmpty = false := by
    cases its with
    | nil => exact absurd rfl hn
    | cons a b => rfl
  have c0 : (decide (k < -(2 ^ 63)) || decide (k ≥ 2 ^ 63)) = false := by
    rw [decide_eq_false (by omega), decide_eq_false (by omega)] <;> rfl
  by_cases hk1 : k = 1
  · have c1 : (its.toArray.isEmpty || k == 1) = true := by
      rw [hk1, hi]
      rfl
    refine wpAny_binaryOp_repeat_ref (T := "tuple") (U := "int") (by decide) ⟨_, ho, rfl⟩ (fun s' => typeIs_int s' k t) noFill_tuple_mul F.fills_int_mul F.slot_int_rmul repeat_tuple F.slot_int_index.lookup
      (call_meets F.slot_int_rmul (typeIs_int s k t) F.entry_int_rmul (F.args_int_rmul_2 _ _) (int_rmul_tuple k t l its.toArray n dd sl)
        ⟨ho, rfl, ⟨_, ho, rfl⟩, call_meets F.slot_tuple_mul ⟨_, ho, rfl⟩ F.entry_tuple_mul (F.args_tuple_mul_2 _ _) (tuple_mul1 l its.toArray n dd sl k t c0 c1) ⟨ho, ?_⟩⟩)
    exact ⟨.ref l, H, I, rfl, q1 hk1⟩
  · have c1 : (its.toArray.isEmpty || k == 1) = false := by
      rw [hi, Bool.false_or]
      exact beq_eq_false_iff_ne.mpr hk1
    have c2 : (decide (k ≤ 0) || its.toArray.isEmpty) = true := by
      rw [decide_eq_true (by omega)]
      rfl
    refine wpAny_binaryOp_repeat_ref (T := "tuple") (U := "int") (by decide) ⟨_, ho, rfl⟩ (fun s' => typeIs_int s' k t) noFill_tuple_mul F.fills_int_mul F.slot_int_rmul repeat_tuple F.slot_int_index.lookup
      (call_meets F.slot_int_rmul (typeIs_int s k t) F.entry_int_rmul (F.args_int_rmul_2 _ _) (int_rmul_tuple k t l its.toArray n dd sl)
        ⟨ho, rfl, ⟨_, ho, rfl⟩, call_meets F.slot_tuple_mul ⟨_, ho, rfl⟩ F.entry_tuple_mul (F.args_tuple_mul_2 _ _) (tuple_mul0 l its.toArray n dd sl k t c0 c1 c2) ⟨ho, ?_⟩⟩)
    refine ⟨.ref s.heap.objs.size, _, I.laid (t' := s.toks) (o := .tup (List.replicate k.toNat xs).flatten) (fun b ob q => Heap.get?_push_of_some _ q) (Nat.le_refl _) ?_, rfl, q hk1 _ (I.hok.fresh (Nat.le_refl _))⟩
    rw [show k.toNat = 0 by omega]
    exact ⟨Nat.zero_le _, [], .nil, IsTup.new _ _⟩
end NL

set_option maxHeartbeats 4000000
namespace NL
open PySem PySem.Spec PyProof.Rows L2
theorem lens_map {K : PySem.W.Frag} {H : Hp} {A : Ar} : (A.map fun os : Pos' => ((os.length : Nat) : Int)) = A.map fun os : Pos' => ((os.length : Nat) : Int) := rfl
/-- a pair of a position and a queue -/
def PairIn (H : Hp) (x : Nat × List Int) (v : V) : Prop := ∃ b q, v = .ref b ∧ H b = some (.tup [.int (x.1 : Nat), .ref q]) ∧ H q = some (.tup (x.2.map V.int))
theorem PairIn.tp {H H' : Hp} {x : Nat × List Int} {v : V} (t : Tp H H') (h : PairIn H x v) : PairIn H' x v := by
  obtain ⟨b, q, h1, h2, h3⟩ := h
  exact ⟨b, q, h1, t _ _ h2, t _ _ h3⟩
def prF (n m d : Nat) : List (Nat × List Int) := (List.range n).flatMap fun a => (quF m d).map fun q => (a, q)
theorem prF_len (n m d : Nat) : (prF n m d).length = n * m ^ d := by
  unfold prF
  rw [fm_len (c := m ^ d) fun x _ => by rw [List.length_map, quF_len], List.length_range]
theorem prF_at {n m d k : Nat} (h : k < n * m ^ d) : ∃ q, (prF n m d)[k]? = some (k / m ^ d, q) ∧ (quF m d)[k % m ^ d]? = some q ∧ k / m ^ d < n := by
  have hm : 0 < m ^ d := by
    rcases Nat.eq_zero_or_pos (m ^ d) with e | e
    · rw [e] at h; omega
    · exact e
  have ha : k / m ^ d < n := Nat.div_lt_of_lt_mul (by rw [Nat.mul_comm]; exact h)
  have hr := Nat.mod_lt k hm
  have hq := List.getElem?_eq_getElem (show k % m ^ d < (quF m d).length by rw [quF_len]; exact hr)
  have e := fm_at (f := fun a => (quF m d).map fun q => (a, q)) (c := m ^ d) (l := List.range n) (i := k / m ^ d) (fun x _ => by rw [List.length_map, quF_len]) (List.getElem?_range ha) hr
  rw [show k / m ^ d * m ^ d + k % m ^ d = k by rw [Nat.mul_comm]; exact Nat.div_add_mod k _, List.getElem?_map, hq] at e
  exact ⟨_, e, hq, ha⟩
theorem rep_one : ∀ d : Nat, (List.replicate d [V.int 0]).flatten = (List.replicate d (0 : Int)).map V.int
  | 0 => rfl
  | d + 1 => by
    rw [List.replicate_succ, List.replicate_succ, List.flatten_cons, rep_one d]
    rfl
theorem take_blk {α β : Type} {f : α → List β} {l : List α} {j : Nat} {x : α} (h : l[j]? = some x) : (l.take (j + 1)).flatMap f = (l.take j).flatMap f ++ f x := by
  rw [List.take_add_one, h, List.flatMap_append]
  congr 1
  show ([x] : List α).flatMap f = f x
  rw [List.flatMap_cons, List.flatMap_nil, List.append_nil]
section
variable {P : Program} {w : World} {K : PySem.W.Frag} {mg : Str → Option Value} {base : Heap}
/-! ### _queues -/
def spQueues : Sp := fun vs H Q _ => ∃ (m d : Nat), vs = [.int (m : Nat), .int (d : Nat)] ∧ m ≤ 100 ∧ d ≤ 100 ∧ m ^ d ≤ 1000 ∧ ∀ p zs H', Same H H' → H p = none → H' p = some (.lst zs) → Each (OptIn H') (quF m d) zs → Q (.ref p) H'
theorem ok_queues (T : Txt K mg) : FnOk P w K mg base CX0 1 T.a_queues T.d_queues P_queues spQueues := by
  refine T.F_queues.ok sc_queues (fun vs H Q E h => ?_) (fun cdv A outer s H vs Q E hr h => ?_)
  · obtain ⟨m, d, rfl, _⟩ := h
    rfl
  obtain ⟨m, d, rfl, hm, hd, hmd, q⟩ := h
  refine ⟨_, (pss_cons (ps_if (PW.pt (pw_and (pt_cmpR op_eq (pv 0) pe_int (nomark _)) (pw_and1 (pt_cmpR op_gt (pv 1) pe_int (nomark _)))))
    (pss_one (ps_ret (pe_lst pa_nil)))
    pss_nil)
    (pss_cons (ps_if (pt_cmpR op_eq (pv 0) pe_int (nomark _))
    (pss_one (ps_ret (pe_lst (pa_cons (pe_op op_repZ (pe_tup (pa_cons pe_int pa_nil)) (pv 1)) pa_nil))))
    pss_nil)
    (pss_cons (ps_set (i := 2) sc_queues.nd rfl (Or.inl rfl) (pe_lst (pa_cons (pe_tup pa_nil) pa_nil)))
    (pss_cons (ps_for  PassesOwn.never rfl (pi_range1 (by rfl) T.z_range (pa_cons (pv 1) pa_nil)) (pg_name (i := 3) sc_queues.nd rfl (Or.inl rfl))
    (pss_one (ps_setLc2 (i := 2) (own := [("queue", 4), ("index", 5)]) (vs1 := [5]) (g := (gName 4)) (g1 := (gName 5)) (tt := tYes) (tt1 := tYes) rfl sc_queues.nd rfl rfl (sw_true rfl rfl rfl (by decide +kernel)) (pi_list (pv 2)) (blkOk_by (N := N_queues) (sc := defScope s_queues) (by decide +kernel)) (by decide) (fun _ _ _ _ _ => (pg_name (i := 4) sc_queues.nd rfl (Or.inl rfl))) (fun _ _ _ _ _ => pts_nil) (fun _ _ _ _ _ => (pi_range1 (by rfl) T.z_range (pa_cons (pv 0) pa_nil))) (fun _ _ _ _ _ => (pg_name (i := 5) sc_queues.nd rfl (Or.inl rfl))) (fun _ _ _ _ _ => pts_nil) (fun _ _ _ _ _ => (pe_op (op_catAK (K := K) rfl) (pv 4) (pe_tup (pa_cons (pv 5) pa_nil)))))))
    (pss_one (ps_ret (pv 2))))))), ?_⟩
  have d1 : m = 0 → decide (V.int ((m : Nat) : Int) = V.int 0) = true := fun e => decide_eq_true (by rw [e]; rfl)
  have d2 : m ≠ 0 → decide (V.int ((m : Nat) : Int) = V.int 0) = false := fun h => decide_eq_false (fun e => h (by have := V.int.inj e; omega))
  have d3 : 0 < d → decide ((0 : Int) < ((d : Nat) : Int)) = true := fun e => decide_eq_true (by omega)
  have d4 : ¬ 0 < d → decide ((0 : Int) < ((d : Nat) : Int)) = false := fun e => decide_eq_false (by omega)
  refine' cutP ?f1 ?b1
  case f1 =>
    intro rest
    refine ⟨_, rfl, rfl, _, rfl, ?_⟩
    by_cases h0 : m = 0
    · refine ifT (d1 h0) ?_
      refine ⟨_, rfl, _, _, rfl, rfl, _, rfl, ?_⟩
      by_cases h1 : 0 < d
      · refine ifT (d3 h1) ?_
        refine ⟨Nat.zero_le _, fun p hp => ?_⟩
        refine q p [] _ (same_new hp _) hp upd_same ?_
        rw [h0, quF_zero h1]
        exact .nil
      · exact ifF (d4 h1) rest
    · exact ifF (d2 h0) (iteF rest)
  refine ⟨_, rfl, rfl, _, rfl, ?_⟩
  by_cases h1 : m = 1
  · refine ifT (decide_eq_true (by rw [h1]; rfl)) ?_
    refine ⟨Nat.le_of_ble_eq_true rfl, fun t0 ht0 => ?_⟩
    obtain ⟨H1, e1, s1, k1⟩ := newH ht0 (.tup [.int 0])
    rw [e1]
    have fin : ∀ (p : Addr) (H2 : Hp), Same H H2 → H2 p = some (.tup ((List.replicate d (0 : Int)).map V.int)) → ∀ r0, H2 r0 = none → Q (.ref r0) (upd H2 r0 (.lst [.ref p])) := fun p H2 s2 k2 r0 hr0 => by
      have s3 := same_new hr0 (.lst [.ref p])
      refine q r0 _ _ (s2.trans s3) (s2.free hr0) upd_same ?_
      rw [h1, quF_one]
      exact .cons ⟨p, rfl, s3 _ _ k2⟩ .nil
    refine ⟨_, rfl, t0, _, _, rfl, rfl, sqt k1, by simp, by omega, by omega, by decide, fun hd1 => ?_, fun hd1 p hp => ?_⟩
    · refine ⟨Nat.le_of_ble_eq_true rfl, fin t0 H1 s1 ?_⟩
      rw [k1, show d = 1 by omega]
      rfl
    · refine ⟨Nat.le_of_ble_eq_true rfl, fin p _ (s1.trans (same_new hp _)) ?_⟩
      rw [upd_same, Int.toNat_natCast]
      exact congrArg (fun z => some (HO.tup z)) (rep_one d)
  refine ifF (decide_eq_false (fun e => h1 (by have := V.int.inj e; omega))) ?_
  refine ⟨Nat.zero_le _, fun t0 ht0 => ?_⟩
  obtain ⟨H1, e1, s1, k1⟩ := newH ht0 (.tup [])
  rw [e1]
  refine ⟨Nat.le_of_ble_eq_true rfl, fun r0 hr0 => ?_⟩
  obtain ⟨H2, e2, s2, k2⟩ := newH hr0 (.lst [.ref t0])
  rw [e2]
  refine ⟨_, rfl, _, rfl, by omega, by omega, for_range (lo := 0) (n := ((d : Nat) : Int).toNat) (fun (j : Nat) (σ : L2.St) (H' : Hp) => ∃ (rp : Addr) (ys : List V) (y3 y4 y5 : Option V), σ = [some (.int (m : Nat)), some (.int (d : Nat)), some (.ref rp), y3, y4, y5] ∧ Same H H' ∧ H rp = none ∧ H' rp = some (.lst ys) ∧ Each (OptIn H') (quF m j) ys) ?_ ?_ ?_⟩
  · exact ⟨r0, _, none, none, none, rfl, s1.trans s2, s1.free hr0, k2, .cons ⟨t0, rfl, s2 _ _ k1⟩ .nil⟩
  · rintro j σ H3 hj ⟨rp, ys, y3, y4, y5, rfl, s3, nrp, k3, hys⟩
    have hjd : j < d := by omega
    have hyl := hys.1
    have hcj : m ^ (j + 1) ≤ 1000 := by
      rcases Nat.eq_zero_or_pos m with e | e
      · rw [e, Nat.pow_succ, Nat.mul_zero]
        omega
      · exact Nat.le_trans (Nat.pow_le_pow_right e (show j + 1 ≤ d by omega)) hmd
    rw [Nat.pow_succ] at hcj
    have hql := quF_len m j
    refine ⟨_, rfl, rp, rfl, ⟨_, sqd k3⟩, fun D hD => ?_⟩
    refine loop_list (K := K) (a := rp) (xs := ys) (fun (i : Nat) (H' : Hp) => ∃ zs, Same H3 H' ∧ H' D = some (.lst zs) ∧ Each (OptIn H') (((quF m j).take i).flatMap (snQ m)) zs) ?_ ?_ ?_ ?_
    · exact ⟨[], same_new hD _, upd_same, .nil⟩
    · rintro i H' ⟨zs, s4, _⟩
      exact sqd (s4 _ _ k3)
    · rintro i x H4 hx ⟨zs, s4, k4, hzs⟩
      have hil := (List.getElem?_eq_some_iff.mp hx).1
      have hqi := List.getElem?_eq_getElem (show i < (quF m j).length by omega)
      generalize (quF m j)[i] = qq at hqi
      obtain ⟨bq, rfl, eq⟩ := hys.2 i qq x hqi hx
      have hqq := (quF_lenq (List.mem_of_getElem? hqi)).1
      have hzl := hzs.1
      rw [fm_len (c := m) fun x _ => snQ_len m x, List.length_take, Nat.min_eq_left (by omega)] at hzl
      have hbig : i * m + m ≤ 1000 := by
        have h5 : (i + 1) * m ≤ m ^ j * m := Nat.mul_le_mul_right _ (by omega)
        rw [Nat.succ_mul] at h5
        omega
      refine ⟨rfl, yes_if ?_⟩
      refine ⟨_, rfl, _, rfl, by omega, by omega, ?_⟩
      refine loop_range (lo := 0) (n := ((m : Nat) : Int).toNat) (fun (k : Nat) (H' : Hp) => ∃ zs, Same H3 H' ∧ H' D = some (.lst zs) ∧ Each (OptIn H') (((quF m j).take i).flatMap (snQ m) ++ (snQ m qq).take k) zs) ?_ ?_ ?_
      · exact ⟨zs, s4, k4, by rw [List.take_zero, List.append_nil]; exact hzs⟩
      · rintro k H5 hk ⟨ws, s5, k5, hws⟩
        have hkm : k < m := by omega
        have hwl := hws.1
        rw [List.length_append, fm_len (c := m) fun x _ => snQ_len m x, List.length_take, Nat.min_eq_left (by omega), List.length_take, snQ_len] at hwl
        refine ⟨rfl, yes_if ?_⟩
        refine ⟨_, rfl, _, rfl, Nat.le_of_ble_eq_true rfl, fun t1 ht1 => ?_⟩
        obtain ⟨H6, e6, s6, k6⟩ := newH ht1 (.tup [.int (0 + (k : Int))])
        rw [show upd H5 t1 (.tup [.int (0 + (k : Int))]) = H6 from e6]
        refine catA_of (K := K) (s6 _ _ (s5 _ _ eq)) k6 (by rw [List.length_map, List.length_singleton]; omega) fun p H7 s7 k7 => ?_
        have s67 := s6.trans s7
        have d7 := s67 _ _ k5
        have tt : Tp H7 (upd H7 D (.lst (ws ++ [.ref p]))) := tp_put Tp.refl d7
        refine ⟨ws, d7, big' (by omega), ws ++ [.ref p], same_put (s5.trans s67) hD, upd_same, ?_⟩
        rw [List.take_add_one, snQ_at hkm, ← List.append_assoc]
        refine (hws.mono fun o x => OptIn.tp ((Tp.same s67).trans tt)).snoc ⟨p, rfl, tt _ _ ?_⟩
        rw [k7, List.map_append, Int.zero_add]
        rfl
      · rintro H5 ⟨ws, s5, k5, hws⟩
        rw [List.take_of_length_le (l := snQ m qq) (by rw [snQ_len]; omega), ← take_blk hqi] at hws
        exact ⟨ws, s5, k5, hws⟩
    · rintro H4 ⟨zs, s4, k4, hzs⟩
      rw [hyl, List.take_length] at hzs
      exact ⟨D, zs, _, _, _, rfl, s3.trans s4, s3.free hD, k4, hzs⟩
  · rintro σ H3 ⟨rp, ys, y3, y4, y5, rfl, s3, nrp, k3, hys⟩
    rw [Int.toNat_natCast] at hys
    exact ⟨_, rfl, q rp ys H3 s3 nrp k3 hys⟩
/-! ### _successors_of -/
def dlI (c r : Nat) (a : Int) : Int := if a = -1 then -1 else a * (c : Int) + (r : Int)
def spSuccD : Sp := fun vs H Q _ => ∃ (bo : Addr) (o : Opt) (r c : Nat), vs = [.ref bo, .int (r : Nat), .int (c : Nat)] ∧ H bo = some (.tup (o.map V.int)) ∧ o.length ≤ 1000 ∧ c ≤ 1000 ∧ ∀ p H', Same H H' → H' p = some (.tup ((o.map (dlI c r)).map V.int)) → Q (.ref p) H'
theorem ok_successors_of (T : Txt K mg) : FnOk P w K mg base CX0 1 T.a_successors_of T.d_successors_of P_successors_of spSuccD := by
  refine T.F_successors_of.ok sc_successors_of (fun vs H Q E h => ?_) (fun cdv A outer s H vs Q E hr h => ?_)
  · obtain ⟨bo, o, r, c, rfl, _⟩ := h
    rfl
  obtain ⟨bo, o, r, c, rfl, eo, hl, hc, q⟩ := h
  refine ⟨_, (pss_one (ps_ret (pe_callTy call_tuple_of (by rfl) T.z_tuple (by decide +kernel) (pa_cons (pe_lc (own := [("after", 3)]) (g := (gName 3)) (tt := tYes) rfl sc_successors_of.nd (pi_tup (pv 0)) (blkOk_by (N := N_successors_of) (sc := defScope s_successors_of) (by decide +kernel)) (fun _ _ _ _ _ => (pg_name (i := 3) sc_successors_of.nd rfl (Or.inl rfl))) (fun _ _ _ _ _ => pts_nil) (fun _ _ _ _ _ => (pe_ifExp (pt_cmpR op_eq (pv 3) (pe_un un_neg pe_int) (nomark _)) (pe_un un_neg pe_int) (pe_op op_add (pe_op op_mul (pv 3) (pv 2)) (pv 1))))) pa_nil)))), ?_⟩
  refine ⟨_, rfl, bo, rfl, ⟨_, sqt eo⟩, fun D hD => ?_⟩
  refine lc_tup (K := K) (a := bo) (xs := o.map V.int) (fun (j : Nat) (H' : Hp) => Same H H' ∧ H' D = some (.lst (((o.take j).map (dlI c r)).map V.int))) ?_ ?_ ?_ ?_
  · exact ⟨same_new hD _, upd_same⟩
  · rintro j H' _ ⟨s1, _⟩
    exact sqt (s1 _ _ eo)
  · rintro j x H1 hx ⟨s1, k1⟩
    rw [List.getElem?_map] at hx
    obtain ⟨a, ha, rfl⟩ := Option.map_eq_some_iff.mp hx
    have fin : ∀ z : Int, z = dlI c r a → ∃ acc, H1 D = some (.lst acc) ∧ acc.length < sizeLine ∧ (Same H (upd H1 D (.lst (acc ++ [V.int z]))) ∧ upd H1 D (.lst (acc ++ [V.int z])) D = some (.lst (((o.take (j + 1)).map (dlI c r)).map V.int))) := fun z hz => by
      refine ⟨_, k1, big' (by rw [List.length_map, List.length_map, List.length_take]; omega), same_put s1 hD, ?_⟩
      rw [upd_same, List.take_add_one, ha, List.map_append, List.map_append, hz]
      rfl
    refine ⟨rfl, yes_if ?_⟩
    refine ⟨_, rfl, _, rfl, rfl, _, rfl, ?_⟩
    by_cases h1 : a = -1
    · exact ifT (decide_eq_true (by rw [h1])) ⟨_, rfl, fin _ (by unfold dlI; rw [if_pos h1])⟩
    · refine ifF (decide_eq_false (fun e => h1 (V.int.inj e))) ?_
      refine ⟨_, rfl, _, rfl, _, _, rfl, rfl, .inr ⟨by omega, by omega⟩, _, rfl, _, _, rfl, rfl, fin _ ?_⟩
      unfold dlI
      rw [if_neg h1]
  · rintro H1 ⟨s1, k1⟩
    rw [List.length_map, List.take_length] at k1
    exact ⟨D, _, rfl, .inl ⟨sqd k1, fun t ht => q t _ (s1.trans (same_new ht _)) upd_same⟩⟩
/-! ### _options_of -/
def spOptsD : Sp := fun vs H Q _ => ∃ (v : V) (os : Pos') (num m c : Nat), vs = [v, .int (num : Nat), .int (m : Nat), .int (c : Nat)] ∧ PosIn H os v ∧ os.length ≤ 1000 ∧ (∀ o ∈ os, o.length ≤ 1000) ∧ num ≤ 100000 ∧ m ≤ 1000 ∧ 0 < c ∧ c ≤ 1000 ∧ ∀ p H', Same H H' → PosIn H' (dlP m c os num) (.ref p) → Q (.ref p) H'
theorem ok_options_of (T : Txt K mg) : FnOk P w K mg base CX0 2 T.a_options_of T.d_options_of P_options_of spOptsD := by
  have G_successors_of := ok_successors_of (P := P) (w := w) (base := base) T
  refine T.F_options_of.ok sc_options_of (fun vs H Q E h => ?_) (fun cdv A outer s H vs Q E hr h => ?_)
  · obtain ⟨v, os, num, m, c, rfl, _⟩ := h
    rfl
  obtain ⟨v, os, num, m, c, rfl, ⟨b1, ys, rfl, e1, hys⟩, hol, hll, hn, hm, hc0, hc, q⟩ := h
  have hyl := hys.1
  refine ⟨_, (pss_cons (ps_set (i := 4) sc_options_of.nd rfl (Or.inl rfl) (pe_lst pa_nil))
    (pss_cons (ps_for  PassesOwn.never rfl (pi_range1 (by rfl) T.z_range (pa_cons (pv 2) pa_nil)) (pg_name (i := 5) sc_options_of.nd rfl (Or.inl rfl))
    (pss_cons (ps_asg (pe_callB (call_divmod) (by rfl) T.z_divmod (by decide +kernel) (pa_cons (pe_op op_add (pe_op op_mul (pv 1) (pv 2)) (pv 5)) (pa_cons (pv 3) pa_nil))) (pg_tup rfl (pgs_cons (pg_name (i := 6) sc_options_of.nd rfl (Or.inl rfl)) (pgs_cons (pg_name (i := 7) sc_options_of.nd rfl (Or.inl rfl)) pgs_nil))))
    (pss_one (ps_expr (pe_bm PySem.F.plainAttrs_list PySem.F.slot_list_append PySem.F.type_list_append mt_append (pv 4) (pa_cons (pe_ifExp (pt_cmpR op_lt (pv 6) (pe_callB call_len_seq (by rfl) T.z_len PySem.boot_len (pa_cons (pv 0) pa_nil)) (nomark _)) (pe_call G_successors_of (hr.mono (by omega)) (by rfl) T.m_successors_of T.F_successors_of.kp T.b_successors_of .nil pass0 (pa_cons (pe_ix ix_tup (pv 0) (pv 6) (fun _ _ => rfl)) (pa_cons (pv 7) (pa_cons (pv 3) pa_nil)))) (pe_tup (pa_cons (pe_un un_neg pe_int) pa_nil))) pa_nil))))))
    (pss_one (ps_ret (pe_callTy call_tuple_of (by rfl) T.z_tuple (by decide +kernel) (pa_cons (pv 4) pa_nil)))))), ?_⟩
  refine ⟨Nat.zero_le _, fun dl hdl => ?_⟩
  obtain ⟨H1, E1, s1, k1⟩ := newH hdl (.lst [])
  rw [E1]
  refine ⟨_, rfl, _, rfl, by omega, by omega, for_range (lo := 0) (n := ((m : Nat) : Int).toNat) (fun (j : Nat) (σ : L2.St) (H' : Hp) => ∃ (zs : List V) (y5 y6 y7 : Option V), σ = [some (.ref b1), some (.int (num : Nat)), some (.int (m : Nat)), some (.int (c : Nat)), some (.ref dl), y5, y6, y7] ∧ Same H H' ∧ H' dl = some (.lst zs) ∧ Each (OptIn H') ((List.range j).map fun pick => dlO os c (num * m + pick)) zs) ?_ ?_ ?_⟩
  · exact ⟨[], none, none, none, rfl, s1, k1, .nil⟩
  · rintro j σ H2 hj ⟨zs, y5, y6, y7, rfl, s2, k2, hzs⟩
    have hjm : j < m := by omega
    have hzl := hzs.1
    rw [List.length_map, List.length_range] at hzl
    generalize hk : (0 : Int) + (j : Int) = k
    refine ⟨_, rfl, _, rfl, _, _, rfl, rfl, .inl ⟨by omega, by omega⟩, _, rfl, _, _, rfl, rfl, _, rfl, _, _, rfl, ⟨by omega, by omega⟩, fun t ht => ?_⟩
    obtain ⟨H3, E3, s3, k3⟩ := newH ht (.tup [.int (((num : Nat) * (m : Nat) + k) / (c : Nat)), .int (((num : Nat) * (m : Nat) + k) % (c : Nat))])
    rw [E3]
    have hz : ((num : Nat) : Int) * ((m : Nat) : Int) + k = ((num * m + j : Nat) : Int) := by
      rw [← hk, Int.natCast_add, Int.natCast_mul, Int.zero_add]
    rw [hz, ← Int.natCast_ediv, ← Int.natCast_emod] at k3
    refine ⟨t, _, rfl, sqt k3, rfl, _, _, rfl, _, _, rfl, rfl, ?_⟩
    have s23 := s2.trans s3
    have k23 := s3 _ _ k2
    have fin : ∀ (p : Addr) (H4 : Hp), Same H3 H4 → OptIn H4 (dlO os c (num * m + j)) (.ref p) → ∃ (a : Addr) (xs : List V) (x : V), V.ref dl = V.ref a ∧ [V.ref p] = [x] ∧ H4 a = some (.lst xs) ∧ xs.length < sizeLine ∧ ∃ (zs : List V) (y5 y6 y7 : Option V), [some (V.ref b1), some (.int (num : Nat)), some (.int (m : Nat)), some (.int (c : Nat)), some (.ref dl), some (.int k), some (.int (((num * m + j) / c : Nat) : Int)), some (.int (((num * m + j) % c : Nat) : Int))] = [some (.ref b1), some (.int (num : Nat)), some (.int (m : Nat)), some (.int (c : Nat)), some (.ref dl), y5, y6, y7] ∧ Same H (upd H4 a (.lst (xs ++ [x]))) ∧ upd H4 a (.lst (xs ++ [x])) dl = some (.lst zs) ∧ Each (OptIn (upd H4 a (.lst (xs ++ [x])))) ((List.range (j + 1)).map fun pick => dlO os c (num * m + pick)) zs := fun p H4 s4 hp => by
      have d4 := s4 _ _ k23
      have tt : Tp H4 (upd H4 dl (.lst (zs ++ [.ref p]))) := tp_put Tp.refl d4
      refine ⟨dl, zs, .ref p, rfl, rfl, d4, big' (by omega), _, _, _, _, rfl, same_put (s23.trans s4) hdl, upd_same, ?_⟩
      rw [List.range_succ, List.map_append]
      exact (hzs.mono fun o x => OptIn.tp ((Tp.same (s3.trans s4)).trans tt)).snoc (hp.tp tt)
    refine ⟨_, rfl, .inl ⟨rfl, _, sqd k23⟩, ?_⟩
    refine ⟨_, rfl, _, rfl, b1, _, rfl, .inr (sqt (s23 _ _ e1)), _, _, rfl, rfl, _, rfl, ?_⟩
    by_cases hf : (num * m + j) / c < os.length
    · refine ifT (decide_eq_true (by rw [hyl]; omega)) ?_
      have ho := List.getElem?_eq_getElem hf
      generalize os[(num * m + j) / c] = o at ho
      obtain ⟨x, hx, bo, rfl, eo⟩ := hys.at ho
      refine ⟨_, rfl, _, rfl, b1, _, _, _, rfl, rfl, sqt (s23 _ _ e1), atI_nat hx, _, rfl, _, rfl, bo, o, (num * m + j) % c, c, rfl, s23 _ _ eo, hll o (List.mem_of_getElem? ho), hc, fun p H4 s4 k4 => ?_⟩
      refine fin p H4 s4 ⟨p, rfl, ?_⟩
      rw [k4]
      unfold dlO
      rw [ho]
      rfl
    · refine ifF (decide_eq_false (by rw [hyl]; omega)) ?_
      refine ⟨_, rfl, Nat.le_of_ble_eq_true rfl, fun p hp => ?_⟩
      refine fin p _ (same_new hp _) ⟨p, rfl, ?_⟩
      rw [upd_same]
      unfold dlO
      rw [List.getElem?_eq_none (by omega)]
      rfl
  · rintro σ H2 ⟨zs, y5, y6, y7, rfl, s2, k2, hzs⟩
    rw [Int.toNat_natCast] at hzs
    refine ⟨_, rfl, dl, _, rfl, .inl ⟨sqd k2, fun t ht => ?_⟩⟩
    have s3 := same_new ht (.tup zs)
    exact q t _ (s2.trans s3) ⟨t, zs, rfl, upd_same, hzs.mono fun o x => OptIn.tp (Tp.same s3)⟩
/-! ### delayed_arena -/
structure DlG (A : Ar) (d : Nat) : Prop where
  len : A.length ≤ 50
  dd : d ≤ 100
  m : mst A ≤ 12
  c : mst A ^ d ≤ 1000
  all : A.length * mst A ^ d ≤ 400
  opt : ∀ os ∈ A, ∀ o ∈ os, OptG A.length o
def spDelay : Sp := fun vs H Q _ => ∃ (v : V) (A : Ar) (d : Nat), vs = [v, .int (d : Nat)] ∧ ArIn H A v ∧ DlG A d ∧ ∀ p a b zs H', Same H H' → H' p = some (.tup [a, .ref b]) → ArIn H' (dlA A d) a → H' b = some (.tup zs) → Each (PairIn H') (prF A.length (mst A) d) zs → Q (.ref p) H'
theorem ok_delayed_arena (T : Txt K mg) : FnOk P w K mg base CX0 3 T.adelayed_arena T.ddelayed_arena Pdelayed_arena spDelay := by
  have G_queues := ok_queues (P := P) (w := w) (base := base) T
  have G_options_of := ok_options_of (P := P) (w := w) (base := base) T
  refine T.Fdelayed_arena.ok scdelayed_arena (fun vs H Q E h => ?_) (fun cdv A outer s H vs Q E hr h => ?_)
  · obtain ⟨v, A, d, rfl, _⟩ := h
    rfl
  obtain ⟨v, A0, d, rfl, ⟨b0, xs, rfl, e0, hxs⟩, hG, q⟩ := h
  have hxl := hxs.1
  have hlen := hG.len
  have hmst := hG.m
  have hcc := hG.c
  have hall := hG.all
  refine ⟨_, (pss_cons (ps_set (i := 2) scdelayed_arena.nd rfl (Or.inl rfl) (pe_callBK (cr_maxDf rfl) (by rfl) T.z_max (by decide +kernel) (pa_cons (pe_lc (own := [("options", 3)]) (g := (gName 3)) (tt := tYes) rfl scdelayed_arena.nd (pi_tup (pv 0)) (blkOk_by (N := Ndelayed_arena) (sc := defScope sdelayed_arena) (by decide +kernel)) (fun _ _ _ _ _ => (pg_name (i := 3) scdelayed_arena.nd rfl (Or.inl rfl))) (fun _ _ _ _ _ => pts_nil) (fun _ _ _ _ _ => (pe_callB (call_len_seqK (K := K) rfl) (by rfl) T.z_len PySem.boot_len (pa_cons (pv 3) pa_nil)))) pa_nil) (pk_cons pe_int pk_nil)))
    (pss_cons (ps_set (i := 4) scdelayed_arena.nd rfl (Or.inr rfl) (pe_call G_queues (hr.mono (by omega)) (by rfl) T.m_queues T.F_queues.kp T.b_queues .nil pass0 (pa_cons (pv 2) (pa_cons (pv 1) pa_nil))))
    (pss_cons (ps_set (i := 5) scdelayed_arena.nd rfl (Or.inl rfl) (pe_callTy call_tuple_of (by rfl) T.z_tuple (by decide +kernel) (pa_cons (pe_lc2 (own := [("at", 6), ("queue", 7)]) (vs1 := [7]) (g := (gName 6)) (g1 := (gName 7)) (tt := tYes) (tt1 := tYes) rfl scdelayed_arena.nd (pi_range1 (by rfl) T.z_range (pa_cons (pe_callB call_len_seq (by rfl) T.z_len PySem.boot_len (pa_cons (pv 0) pa_nil)) pa_nil)) (blkOk_by (N := Ndelayed_arena) (sc := defScope sdelayed_arena) (by decide +kernel)) (by decide) (fun _ _ _ _ _ => (pg_name (i := 6) scdelayed_arena.nd rfl (Or.inl rfl))) (fun _ _ _ _ _ => pts_nil) (fun _ _ _ _ _ => (pi_listK (K := K) rfl (pv 4))) (fun _ _ _ _ _ => (pg_name (i := 7) scdelayed_arena.nd rfl (Or.inl rfl))) (fun _ _ _ _ _ => pts_nil) (fun _ _ _ _ _ => (pe_tup (pa_cons (pv 6) (pa_cons (pv 7) pa_nil))))) pa_nil)))
    (pss_cons (ps_set (i := 8) scdelayed_arena.nd rfl (Or.inl rfl) (pe_lst pa_nil))
    (pss_cons (ps_for  PassesOwn.never rfl (pi_tup (pv 0)) (pg_name (i := 3) scdelayed_arena.nd rfl (Or.inl rfl))
    (pss_one (ps_for  PassesOwn.never rfl (pi_range1 (by rfl) T.z_range (pa_cons (pe_callB call_len_seq (by rfl) T.z_len PySem.boot_len (pa_cons (pv 4) pa_nil)) pa_nil)) (pg_name (i := 9) scdelayed_arena.nd rfl (Or.inl rfl))
    (pss_one (ps_expr (pe_bm PySem.F.plainAttrs_list PySem.F.slot_list_append PySem.F.type_list_append mt_append (pv 8) (pa_cons (pe_call G_options_of (hr.mono (by omega)) (by rfl) T.m_options_of T.F_options_of.kp T.b_options_of .nil pass0 (pa_cons (pv 3) (pa_cons (pv 9) (pa_cons (pv 2) (pa_cons (pe_callB call_len_seq (by rfl) T.z_len PySem.boot_len (pa_cons (pv 4) pa_nil)) pa_nil))))) pa_nil)))))))
    (pss_one (ps_ret (pe_tup (pa_cons (pe_callTy call_tuple_of (by rfl) T.z_tuple (by decide +kernel) (pa_cons (pv 8) pa_nil)) (pa_cons (pv 5) pa_nil)))))))))), ?_⟩
  refine ⟨_, rfl, b0, rfl, ⟨_, sqt e0⟩, fun L hL => ?_⟩
  refine lc_tup (K := K) (a := b0) (xs := xs) (fun (j : Nat) (H' : Hp) => Same H H' ∧ H' L = some (.lst (((A0.take j).map fun os : Pos' => ((os.length : Nat) : Int)).map V.int))) ?_ ?_ ?_ ?_
  · exact ⟨same_new hL _, upd_same⟩
  · rintro j H' _ ⟨s1, _⟩
    exact sqt (s1 _ _ e0)
  · rintro j x H1 hx ⟨s1, k1⟩
    have hjl := (List.getElem?_eq_some_iff.mp hx).1
    have hos := List.getElem?_eq_getElem (show j < A0.length by omega)
    generalize A0[j] = os at hos
    obtain ⟨b1, ys, rfl, e1, hys⟩ := hxs.2 j os x hos hx
    refine ⟨rfl, yes_if ?_⟩
    refine ⟨_, rfl, b1, _, rfl, .inr (sqt (s1 _ _ e1)), _, k1, big' (by rw [List.length_map, List.length_map, List.length_take]; omega), same_put s1 hL, ?_⟩
    rw [upd_same, List.take_add_one, hos, List.map_append, List.map_append, hys.1]
    rfl
  rintro H1 ⟨s1, k1⟩
  rw [hxl, List.take_length] at k1
  refine ⟨L, _, 0, rfl, rfl, sqd k1, fun mi hm0 hm1 => ?_⟩
  obtain ⟨m, rfl, hmm⟩ : ∃ m : Nat, mi = (m : Int) ∧ m = mst A0 := by
    by_cases he : A0 = []
    · refine ⟨0, hm0 (by rw [he]; rfl), by rw [he]; rfl⟩
    · obtain ⟨h1, h2⟩ := hm1 (fun e => he (List.map_eq_nil_iff.mp e))
      obtain ⟨os, ho, rfl⟩ := List.mem_map.mp h1
      refine ⟨os.length, rfl, mst_eq (fun e => absurd e he) (fun _ => ⟨os, ho, rfl⟩) fun os' ho' => ?_⟩
      have := h2 _ (List.mem_map_of_mem ho')
      omega
  subst hmm
  refine ⟨_, rfl, _, rfl, mst A0, d, rfl, by omega, hG.dd, hcc, fun qp qs H2 s2 hqp k2 hqs => ?_⟩
  have hqn : H qp = none := s1.free hqp
  have hql := hqs.1
  rw [quF_len] at hql
  have s12 := s1.trans s2
  have e02 := s12 _ _ e0
  -- pairs
  refine ⟨_, rfl, b0, _, rfl, .inr (sqt e02), _, rfl, by omega, by omega, fun D hD => ?_⟩
  have hp1 : ∀ i : Nat, ((List.range i).flatMap fun a => (quF (mst A0) d).map fun q => (a, q)).length = i * mst A0 ^ d := fun i => by
    rw [fm_len (c := mst A0 ^ d) fun x _ => by rw [List.length_map, quF_len], List.length_range]
  refine loop_range (lo := 0) (n := ((xs.length : Nat) : Int).toNat) (fun (i : Nat) (H' : Hp) => ∃ zs, Same H2 H' ∧ H' D = some (.lst zs) ∧ Each (PairIn H') ((List.range i).flatMap fun a => (quF (mst A0) d).map fun q => (a, q)) zs) ?_ ?_ ?_
  · exact ⟨[], same_new hD _, upd_same, .nil⟩
  · rintro i H3 hi ⟨zs, s3, k3, hzs⟩
    have hil : i < A0.length := by omega
    have hzl := hzs.1
    rw [hp1] at hzl
    have hib : (i + 1) * mst A0 ^ d ≤ A0.length * mst A0 ^ d := Nat.mul_le_mul_right _ hil
    rw [Nat.succ_mul] at hib
    refine ⟨rfl, yes_if ?_⟩
    refine ⟨_, rfl, qp, rfl, ⟨_, sqd (s3 _ _ k2)⟩, ?_⟩
    refine loop_list (K := K) (a := qp) (xs := qs) (fun (k : Nat) (H' : Hp) => ∃ zs, Same H2 H' ∧ H' D = some (.lst zs) ∧ Each (PairIn H') (((List.range i).flatMap fun a => (quF (mst A0) d).map fun q => (a, q)) ++ ((quF (mst A0) d).take k).map fun q => (i, q)) zs) ?_ ?_ ?_ ?_
    · exact ⟨zs, s3, k3, by rw [List.take_zero, List.map_nil, List.append_nil]; exact hzs⟩
    · rintro k H' ⟨zs, s4, _⟩
      exact sqd (s4 _ _ k2)
    · rintro k x H4 hx ⟨ws, s4, k4, hws⟩
      have hkl := (List.getElem?_eq_some_iff.mp hx).1
      obtain ⟨qq, hqk⟩ : ∃ qq, (quF (mst A0) d)[k]? = some qq := ⟨_, List.getElem?_eq_getElem (by rw [quF_len]; omega)⟩
      obtain ⟨bq, rfl, eq⟩ := hqs.2 k qq x hqk hx
      have hwl := hws.1
      rw [List.length_append, hp1, List.length_map, List.length_take] at hwl
      refine ⟨rfl, yes_if ?_⟩
      refine ⟨_, rfl, _, rfl, Nat.le_of_ble_eq_true rfl, fun t ht => ?_⟩
      obtain ⟨H5, E5, s5, k5⟩ := newH ht (.tup [.int (0 + (i : Int)), .ref bq])
      rw [E5]
      have d5 := s5 _ _ k4
      have tt : Tp H5 (upd H5 D (.lst (ws ++ [.ref t]))) := tp_put Tp.refl d5
      refine ⟨ws, d5, big' (by omega), ws ++ [.ref t], same_put (s4.trans s5) hD, upd_same, ?_⟩
      rw [List.take_add_one, hqk, List.map_append, ← List.append_assoc]
      refine (hws.mono fun o x => PairIn.tp ((Tp.same s5).trans tt)).snoc ⟨t, bq, rfl, tt _ _ ?_, tt _ _ ((s4.trans s5) _ _ eq)⟩
      rw [k5, Int.zero_add]
    · rintro H4 ⟨ws, s4, k4, hws⟩
      rw [List.take_of_length_le (by rw [quF_len]; omega)] at hws
      refine ⟨ws, s4, k4, ?_⟩
      rw [List.range_succ, List.flatMap_append, List.flatMap_cons, List.flatMap_nil, List.append_nil]
      exact hws
  rintro H3 ⟨zs, s3, k3, hzs⟩
  rw [show ((xs.length : Nat) : Int).toNat = A0.length by omega] at hzs
  refine ⟨D, _, rfl, .inl ⟨sqd k3, fun pb hpb => ?_⟩⟩
  obtain ⟨H4, E4, s4, k4⟩ := newH hpb (.tup zs)
  rw [E4]
  have hzs4 : Each (PairIn H4) (prF A0.length (mst A0) d) zs := hzs.mono fun o x => PairIn.tp (Tp.same s4)
  refine ⟨Nat.zero_le _, fun dl hdl => ?_⟩
  obtain ⟨H5, E5, s5, k5⟩ := newH hdl (.lst [])
  rw [E5]
  have s24 := s3.trans s4
  have s25 := s24.trans s5
  have s05 := s12.trans s25
  have hbl : ∀ i : Nat, (((A0.take i).flatMap (dlB (mst A0) (mst A0 ^ d)))).length = min i A0.length * mst A0 ^ d := fun i => by
    rw [fm_len (c := mst A0 ^ d) fun x _ => dlB_len _ _ x, List.length_take]
  refine ⟨_, rfl, b0, rfl, ⟨_, sqt (s05 _ _ e0)⟩, ?_⟩
  have k2' := s25 _ _ k2
  refine for_tup (K := K) (a := b0) (xs := xs) (fun (i : Nat) (σ : L2.St) (H' : Hp) => ∃ (ws : List V) (y3 y6 y7 y9 : Option V), σ = [some (.ref b0), some (.int (d : Nat)), some (.int ((mst A0 : Nat) : Int)), y3, some (.ref qp), some (.ref pb), y6, y7, some (.ref dl), y9] ∧ Same H4 H' ∧ H' dl = some (.lst ws) ∧ Each (PosIn H') ((A0.take i).flatMap (dlB (mst A0) (mst A0 ^ d))) ws) ?_ ?_ ?_ ?_
  · exact ⟨[], _, _, _, _, rfl, s5, k5, .nil⟩
  · rintro i σ H' _ ⟨ws, y3, y6, y7, y9, rfl, s6, _⟩
    exact sqt (((s12.trans s24).trans s6) _ _ e0)
  · rintro i x σ H6 hx ⟨ws, y3, y6, y7, y9, rfl, s6, k6, hws⟩
    have hil := (List.getElem?_eq_some_iff.mp hx).1
    have hos := List.getElem?_eq_getElem (show i < A0.length by omega)
    generalize A0[i] = os at hos
    have hx0 := hxs.2 i os x hos hx
    have s06 := (s12.trans s24).trans s6
    have hgo := hG.opt os (List.mem_of_getElem? hos)
    have hosl := mst_le (List.mem_of_getElem? hos)
    have hib : (i + 1) * mst A0 ^ d ≤ A0.length * mst A0 ^ d := Nat.mul_le_mul_right _ (by omega)
    rw [Nat.succ_mul] at hib
    refine ⟨_, rfl, qp, _, rfl, .inl (sqd ((s24.trans s6) _ _ k2)), _, rfl, by omega, by omega, ?_⟩
    refine for_range (lo := 0) (n := ((qs.length : Nat) : Int).toNat) (fun (j : Nat) (σ : L2.St) (H' : Hp) => ∃ (vs : List V) (y6 y7 y9 : Option V), σ = [some (.ref b0), some (.int (d : Nat)), some (.int ((mst A0 : Nat) : Int)), some x, some (.ref qp), some (.ref pb), y6, y7, some (.ref dl), y9] ∧ Same H4 H' ∧ H' dl = some (.lst vs) ∧ Each (PosIn H') ((A0.take i).flatMap (dlB (mst A0) (mst A0 ^ d)) ++ (List.range j).map (dlP (mst A0) (mst A0 ^ d) os)) vs) ?_ ?_ ?_
    · exact ⟨ws, _, _, _, rfl, s6, k6, by rw [List.range_zero, List.map_nil, List.append_nil]; exact hws⟩
    · rintro j σ H7 hj ⟨vs, y6, y7, y9, rfl, s7, k7, hvs⟩
      have hvl := hvs.1
      rw [List.length_append, hbl, Nat.min_eq_left (by omega), List.length_map, List.length_range] at hvl
      have s07 := (s12.trans s24).trans s7
      refine ⟨_, rfl, .inl ⟨rfl, _, sqd k7⟩, ?_⟩
      refine ⟨_, rfl, _, rfl, _, rfl, _, rfl, qp, _, rfl, .inl (sqd ((s24.trans s7) _ _ k2)), ?_⟩
      have hx7 := hx0.tp (Tp.same s07)
      refine ⟨x, os, j, mst A0, mst A0 ^ d, ?_, hx7, by omega, fun o ho => Nat.le_trans (hgo o ho).len (by decide), by omega, by omega, by omega, hcc, fun p H8 s8 hp => ?_⟩
      · rw [hql, Int.zero_add]
        rfl
      have d8 := s8 _ _ k7
      have tt : Tp H8 (upd H8 dl (.lst (vs ++ [.ref p]))) := tp_put Tp.refl d8
      refine ⟨dl, vs, _, rfl, rfl, d8, big' (by omega), vs ++ [.ref p], _, _, _, rfl, same_put (s7.trans s8) hdl, upd_same, ?_⟩
      rw [List.range_succ, List.map_append, ← List.append_assoc]
      exact (hvs.mono fun o x => PosIn.tp ((Tp.same s8).trans tt)).snoc (hp.tp tt)
    · rintro σ H7 ⟨vs, y6, y7, y9, rfl, s7, k7, hvs⟩
      rw [show ((qs.length : Nat) : Int).toNat = mst A0 ^ d by omega] at hvs
      refine ⟨vs, _, _, _, _, rfl, s7, k7, ?_⟩
      rw [take_blk hos]
      exact hvs
  · rintro σ H6 ⟨ws, y3, y6, y7, y9, rfl, s6, k6, hws⟩
    rw [hxl, List.take_length] at hws
    refine ⟨_, rfl, dl, _, rfl, .inl ⟨sqd k6, fun ta hta => ?_⟩⟩
    obtain ⟨H7, E7, s7, k7⟩ := newH hta (.tup ws)
    rw [E7]
    refine ⟨_, rfl, Nat.le_of_ble_eq_true rfl, fun t ht => ?_⟩
    have s8 := same_new ht (.tup [V.ref ta, .ref pb])
    have s48 := (s6.trans s7).trans s8
    refine q t (.ref ta) pb zs _ (((s12.trans s24).trans s6).trans (s7.trans s8)) upd_same ⟨ta, ws, rfl, s8 _ _ k7, hws.mono fun o x => PosIn.tp (Tp.same (s7.trans s8))⟩ (s48 _ _ k4) (hzs4.mono fun o x => PairIn.tp (Tp.same s48))
end
end NL

namespace NL
open PySem PySem.Spec PyProof.Rows L2
/-! ### two answers that are the same -/
def Alk : Nat → Hp → V → V → Prop
  | 0, _, _, _ => False
  | n + 1, H, u, v => (u = .non ∧ v = .non) ∨ (∃ s, u = .str s ∧ v = .str s) ∨ (∃ i, u = .int i ∧ v = .int i) ∨ ∃ a b xs ys, u = .ref a ∧ v = .ref b ∧ H a = some (.tup xs) ∧ H b = some (.tup ys) ∧ xs.length = ys.length ∧ ys.length ≤ 1000000 ∧
      ∀ (k : Nat) x y, xs[k]? = some x → ys[k]? = some y → Alk n H x y
theorem Alk.ints {H : Hp} {a b : Addr} {l : List Int} (ha : H a = some (.tup (l.map V.int))) (hb : H b = some (.tup (l.map V.int))) (hl : l.length ≤ 1000000) : Alk 2 H (.ref a) (.ref b) := by
  refine .inr (.inr (.inr ⟨a, b, _, _, rfl, rfl, ha, hb, rfl, by rw [List.length_map]; exact hl, fun k x y hx hy => ?_⟩))
  rw [hx] at hy
  cases hy
  rw [List.getElem?_map] at hx
  obtain ⟨i, _, rfl⟩ := Option.map_eq_some_iff.mp hx
  exact .inr (.inr (.inl ⟨i, rfl, rfl⟩))
section
variable {P : Program} {w : World} {K : PySem.W.Frag} {mg : Str → Option Value} {base : Heap}
def spSame (n : Nat) : Sp := fun vs H Q _ => ∃ u v : V, vs = [u, v] ∧ Alk n H u v ∧ Q (.bl true) H
theorem ok_law_same (T : Txt K mg) : ∀ n : Nat, FnOk P w K mg base CX0 (n + 1) T.a_law_same T.d_law_same P_law_same (spSame n)
  | 0 => by
    have no : ∀ vs H Q E, ¬ spSame 0 vs H Q E := fun vs H Q E ⟨u, v, _, h, _⟩ => h
    exact ⟨fun vs H Q E h => absurd h (no vs H Q E), fun A outer s H args us vs Q E _ _ _ _ h => absurd h (no vs H Q E)⟩
  | n + 1 => by
    have G_law_same := ok_law_same T n
    refine T.F_law_same.ok sc_law_same (fun vs H Q E h => ?_) (fun cdv A outer s H vs Q E hr h => ?_)
    · obtain ⟨u, v, rfl, _⟩ := h
      rfl
    obtain ⟨u, v, rfl, h, q⟩ := h
    refine ⟨_, (pss_cons (ps_if (pt_cmpR op_isN (pv 1) pe_non (nomark _))
    (pss_one (ps_ret (pe_cmpR op_isN (pv 0) pe_non (nomark _))))
    pss_nil)
    (pss_cons (ps_if (pt_val (pe_callB (call_isi) (by rfl) T.z_isinstance (by decide +kernel) (pa_cons (pv 1) (pa_cons (pe_bltn (v := .ty "str") (u := .type "str") (by rfl) T.z_str (by decide +kernel) rfl) pa_nil))))
    (pss_one (ps_ret (pe_and (pe_callB (call_isi) (by rfl) T.z_isinstance (by decide +kernel) (pa_cons (pv 0) (pa_cons (pe_bltn (v := .ty "str") (u := .type "str") (by rfl) T.z_str (by decide +kernel) rfl) pa_nil))) (pe_one (pe_cmpR op_eq (pv 0) (pv 1) (nomark _))))))
    pss_nil)
    (pss_cons (ps_if (pt_val (pe_callB (call_isi) (by rfl) T.z_isinstance (by decide +kernel) (pa_cons (pv 1) (pa_cons (pe_bltn (v := .ty "int") (u := .type "int") (by rfl) T.z_int (by decide +kernel) rfl) pa_nil))))
    (pss_one (ps_ret (pe_and (pe_callB (call_isi) (by rfl) T.z_isinstance (by decide +kernel) (pa_cons (pv 0) (pa_cons (pe_bltn (v := .ty "int") (u := .type "int") (by rfl) T.z_int (by decide +kernel) rfl) pa_nil))) (pe_and (pe_not (pe_callB (call_isi) (by rfl) T.z_isinstance (by decide +kernel) (pa_cons (pv 0) (pa_cons (pe_bltn (v := .ty "bool") (u := .type "bool") (by rfl) T.z_bool (by decide +kernel) rfl) pa_nil)))) (pe_one (pe_cmpR op_eq (pv 0) (pv 1) (nomark _)))))))
    pss_nil)
    (pss_cons (ps_if (PW.pt (pw_or (pt_not (pt_val (pe_callB (call_isi) (by rfl) T.z_isinstance (by decide +kernel) (pa_cons (pv 0) (pa_cons (pe_bltn (v := .ty "tuple") (u := .type "tuple") (by rfl) T.z_tuple (by decide +kernel) rfl) pa_nil))))) (pw_or1 (pt_cmpR op_ne (pe_callB call_len_seq (by rfl) T.z_len PySem.boot_len (pa_cons (pv 0) pa_nil)) (pe_callB call_len_seq (by rfl) T.z_len PySem.boot_len (pa_cons (pv 1) pa_nil)) (nomark _)))))
    (pss_one (ps_ret pe_bl))
    pss_nil)
    (pss_cons (ps_for  PassesOwn.never rfl (pi_range1 (by rfl) T.z_range (pa_cons (pe_callB call_len_seq (by rfl) T.z_len PySem.boot_len (pa_cons (pv 1) pa_nil)) pa_nil)) (pg_name (i := 2) sc_law_same.nd rfl (Or.inl rfl))
    (pss_one (ps_if (pt_not (pt_val (pe_call G_law_same (hr.mono (by omega)) (by rfl) T.m_law_same T.F_law_same.kp T.b_law_same .nil pass0 (pa_cons (pe_ix ix_tup (pv 0) (pv 2) (fun _ _ => rfl)) (pa_cons (pe_ix ix_tup (pv 1) (pv 2) (fun _ _ => rfl)) pa_nil)))))
    (pss_one (ps_ret pe_bl))
    pss_nil)))
    (pss_one (ps_ret pe_bl))))))), ?_⟩
    refine ⟨_, rfl, rfl, _, rfl, ?_⟩
    rcases h with ⟨rfl, rfl⟩ | ⟨s, rfl, rfl⟩ | ⟨i, rfl, rfl⟩ | ⟨a, b, xs, ys, rfl, rfl, ea, eb, hl, hz, hall⟩
    · exact ifT (decide_eq_true rfl) ⟨_, rfl, rfl, boolE (decide_eq_true rfl) q⟩
    · refine ifF (decide_eq_false (fun e => nomatch e)) ?_
      refine ⟨_, rfl, _, _, .type "str", .type "str", true, rfl, .ty "str", .base (.str _), kit_ty (by decide +kernel), true, rfl, ?_⟩
      refine iteT ⟨_, rfl, _, _, .type "str", .type "str", true, rfl, .ty "str", .base (.str _), kit_ty (by decide +kernel), true, rfl, ?_⟩
      exact iteT ⟨_, rfl, _, rfl, rfl, boolE (decide_eq_true rfl) q⟩
    · refine ifF (decide_eq_false (fun e => nomatch e)) ?_
      refine ⟨_, rfl, _, _, .type "int", .type "str", false, rfl, .ty "str", .base (.int _), kit_ty (by decide +kernel), false, rfl, ?_⟩
      refine iteF ⟨_, rfl, _, _, .type "int", .type "int", true, rfl, .ty "int", .base (.int _), kit_ty (by decide +kernel), true, rfl, ?_⟩
      refine iteT ⟨_, rfl, _, _, .type "int", .type "int", true, rfl, .ty "int", .base (.int _), kit_ty (by decide +kernel), true, rfl, ?_⟩
      refine iteT ⟨_, rfl, _, _, .type "int", .type "bool", false, rfl, .ty "bool", .base (.int _), kit_ty (by decide +kernel), false, rfl, true, rfl, ?_⟩
      exact iteT ⟨_, rfl, _, rfl, rfl, boolE (decide_eq_true rfl) q⟩
    · refine ifF (decide_eq_false (fun e => nomatch e)) ?_
      refine ⟨_, rfl, _, _, .type "tuple", .type "str", false, rfl, .ty "str", .base (.tup eb), kit_ty (by decide +kernel), false, rfl, ?_⟩
      refine iteF ⟨_, rfl, _, _, .type "tuple", .type "int", false, rfl, .ty "int", .base (.tup eb), kit_ty (by decide +kernel), false, rfl, ?_⟩
      refine iteF ⟨_, rfl, _, _, .type "tuple", .type "tuple", true, rfl, .ty "tuple", .base (.tup ea), kit_ty (by decide +kernel), true, rfl, ?_⟩
      refine iteF ?_
      refine ⟨_, rfl, a, _, rfl, .inr (sqt ea), _, rfl, b, _, rfl, .inr (sqt eb), rfl, _, rfl, ?_⟩
      refine ifF (by rw [hl, decide_eq_true rfl] <;> rfl) ?_
      refine ⟨_, rfl, b, _, rfl, .inr (sqt eb), _, rfl, by omega, by omega, for_range (lo := 0) (n := ys.length) (fun j σ H' => ∃ y : Option V, σ = [some (.ref a), some (.ref b), y] ∧ H' = H) ?_ ?_ ?_⟩
      · exact ⟨none, rfl, rfl⟩
      · rintro j σ H' hj ⟨y, rfl, rfl⟩
        have hjx : xs[j]? = some xs[j] := List.getElem?_eq_getElem (by omega)
        have hjy : ys[j]? = some ys[j] := List.getElem?_eq_getElem hj
        have e0 : (0 : Int) + (j : Int) = (j : Int) := Int.zero_add _
        refine ⟨_, rfl, _, rfl, a, _, _, _, rfl, rfl, sqt ea, by rw [e0]; exact atI_nat hjx, _, rfl, _, rfl, b, _, _, _, rfl, rfl, sqt eb, by rw [e0]; exact atI_nat hjy, ?_⟩
        refine ⟨_, _, rfl, hall j _ _ hjx hjy, true, rfl, ?_⟩
        exact iteF ⟨_, rfl, rfl⟩
      · rintro σ H' ⟨y, rfl, rfl⟩
        exact q
end
end NL

set_option maxHeartbeats 4000000
namespace NL
open PySem PySem.Spec PyProof.Rows L2
theorem op_repZK {X : Cx} {K : PySem.W.Frag} (h : X.K = K) : OpR X (binaryOp .Mult) (rRepZ K) := by
  subst h
  exact op_repZ
theorem sl_tupAK {X : Cx} {K : PySem.W.Frag} (h : X.K = K) : SlR X (rSlA K) := by
  subst h
  exact sl_tupA
theorem cr_setOfIK {X : Cx} {K : PySem.W.Frag} {w : World} (h : X.K = K) (hw : X.w = w) (hc : X.calm = true) : CallR X (.type "set") (rSetOfI K w) := by
  subst h
  subst hw
  exact cr_setOfI hc
theorem cr_sortedSetK {X : Cx} {w : World} (hw : X.w = w) (hc : X.calm = true) : CallR X (.builtin "sorted") (rSortedSet w) := by
  subst hw
  exact cr_sortedSet hc
/-! ### ascending successors -/
def ascB : Int → Int → List Int → Bool
  | _, _, [] => true
  | low, n, x :: r => decide (low ≤ x) && (decide (x < n) && ascB (x + 1) n r)
theorem asc_good : ∀ {low n : Int} {o : List Int}, (∀ s ∈ o, low ≤ s ∧ s < n) → o.Pairwise (· < ·) → ascB low n o = true
  | _, _, [], _, _ => rfl
  | low, n, x :: r, h, p => by
    obtain ⟨h1, h2⟩ := List.pairwise_cons.mp p
    obtain ⟨h3, h4⟩ := h x List.mem_cons_self
    rw [ascB, decide_eq_true h3, decide_eq_true h4, asc_good (fun s hs => ⟨h1 s hs, (h s (List.mem_cons_of_mem _ hs)).2⟩) h2]
    rfl
section
variable {P : Program} {w : World} {K : PySem.W.Frag} {mg : Str → Option Value} {base : Heap}
/-! ### is_ascending -/
def spAsc : Sp := fun vs H Q _ => ∃ (b : Addr) (o : List Int) (low n : Int), vs = [.ref b, .int low, .int n] ∧ H b = some (.tup (o.map V.int)) ∧ Q (.bl (ascB low n o)) H
theorem asc_drop {low n : Int} {o : List Int} {j : Nat} {x : Int} (h : o[j]? = some x) : ascB low n (o.drop j) = (decide (low ≤ x) && (decide (x < n) && ascB (x + 1) n (o.drop (j + 1)))) := by
  obtain ⟨h1, e1⟩ := List.getElem?_eq_some_iff.mp h
  rw [List.drop_eq_getElem_cons h1, ascB, e1]
theorem ok_is_ascending (T : Txt K mg) : FnOk P w K mg base CX0 1 T.ais_ascending T.dis_ascending Pis_ascending spAsc := by
  refine T.Fis_ascending.ok scis_ascending (fun vs H Q E h => ?_) (fun cdv A outer s H vs Q E hr h => ?_)
  · obtain ⟨b, o, low, n, rfl, _⟩ := h
    rfl
  obtain ⟨b, o, low, n, rfl, hb, q⟩ := h
  refine ⟨_, (pss_cons (ps_set (i := 3) scis_ascending.nd rfl (Or.inl rfl) (pv 1))
    (pss_cons (ps_for  PassesOwn.never rfl (pi_tup (pv 0)) (pg_name (i := 4) scis_ascending.nd rfl (Or.inl rfl))
    (pss_cons (ps_if (pt_not (pt_chain op_le op_lt (pv 3) (pv 4) (pv 2)))
    (pss_one (ps_ret pe_bl))
    pss_nil)
    (pss_one (ps_set (i := 3) scis_ascending.nd rfl (Or.inl rfl) (pe_op op_add (pv 4) pe_int)))))
    (pss_one (ps_ret pe_bl)))), ?_⟩
  refine ⟨_, rfl, ?_⟩
  refine ⟨_, rfl, b, rfl, ⟨_, sqt hb⟩, for_tup (K := K) (a := b) (xs := o.map V.int) (fun (j : Nat) (σ : L2.St) (H' : Hp) => ∃ (l : Int) (y4 : Option V), σ = [some (.ref b), some (.int low), some (.int n), some (.int l), y4] ∧ H' = H ∧ ascB low n o = ascB l n (o.drop j)) ?_ ?_ ?_ ?_⟩
  · exact ⟨low, none, rfl, rfl, by rw [List.drop_zero]⟩
  · rintro j σ H' _ ⟨l, y4, rfl, rfl, _⟩
    exact sqt hb
  · rintro j x σ H' hx ⟨l, y4, rfl, rfl, he⟩
    rw [List.getElem?_map] at hx
    obtain ⟨i, hi, rfl⟩ := Option.map_eq_some_iff.mp hx
    rw [asc_drop hi] at he
    refine ⟨_, rfl, _, rfl, _, _, rfl, rfl, _, rfl, ?_⟩
    by_cases h1 : l ≤ i
    case neg =>
      refine ifF (decide_eq_false h1) ⟨_, rfl, iteT ?_⟩
      rw [decide_eq_false h1, Bool.false_and] at he
      rw [he] at q
      exact q
    refine ifT (decide_eq_true h1) ⟨_, rfl, _, _, rfl, rfl, _, rfl, ?_⟩
    rw [decide_eq_true h1, Bool.true_and] at he
    by_cases h2 : i < n
    case neg =>
      refine ifT (by rw [decide_eq_false h2] <;> rfl) ?_
      rw [decide_eq_false h2, Bool.false_and] at he
      rw [he] at q
      exact q
    refine ifF (by rw [decide_eq_true h2] <;> rfl) ?_
    rw [decide_eq_true h2, Bool.true_and] at he
    exact ⟨_, rfl, _, _, rfl, rfl, i + 1, _, rfl, rfl, he⟩
  · rintro σ H' ⟨l, y4, rfl, rfl, he⟩
    rw [List.length_map, List.drop_length] at he
    rw [he] at q
    exact q
/-! ### check_arena, nothing raised -/
theorem dp_ints {K : PySem.W.Frag} {H : Hp} : ∀ l : List Int, DpAll K H (l.map V.int) (l.map PyData.int)
  | [] => .nil
  | a :: r => .cons (.int a) (dp_ints r)
theorem lay_ints : ∀ l : List Int, PyData.canLayAll0 (l.map PyData.int) = true ∧ PyData.depthAll (l.map PyData.int) = 0
  | [] => ⟨rfl, rfl⟩
  | a :: r => by
    obtain ⟨h1, h2⟩ := lay_ints r
    refine ⟨?_, ?_⟩
    · show (true && PyData.canLayAll0 (r.map PyData.int)) = true
      rw [h1]
      rfl
    · show max 0 (PyData.depthAll (r.map PyData.int)) = 0
      rw [h2]
      rfl
theorem shaped_tup (l : List Int) : SeqAt.shaped (.tuple (l.map PyData.int)) = true := by
  obtain ⟨h1, h2⟩ := lay_ints l
  show (PyData.canLayAll0 (l.map PyData.int) && decide (PyData.depthAll (l.map PyData.int) + 1 ≤ 64)) = true
  rw [h1, h2]
  rfl
def spCheckA : Sp := fun vs H Q _ => ∃ (v : V) (A : Ar), vs = [v] ∧ ArIn H A v ∧ ArG A ∧ ∀ H', Same H H' → Q .non H'
theorem ok_check_arena (T : Txt K mg) : FnOk P w K mg base CX0 2 T.acheck_arena T.dcheck_arena Pcheck_arena spCheckA := by
  have Gis_ascending := ok_is_ascending (P := P) (w := w) (base := base) T
  refine T.Fcheck_arena.ok sccheck_arena (fun vs H Q E h => ?_) (fun cdv A outer s H vs Q E hr h => ?_)
  · obtain ⟨v, A, rfl, _⟩ := h
    rfl
  obtain ⟨v, A0, rfl, ⟨b0, xs, rfl, e0, hxs⟩, hG, q⟩ := h
  refine ⟨_, (pss_one (ps_for  PassesOwn.never rfl (pi_tup (pv 0)) (pg_name (i := 1) sccheck_arena.nd rfl (Or.inl rfl))
    (pss_one (ps_for  PassesOwn.never rfl (pi_tup (pv 1)) (pg_name (i := 2) sccheck_arena.nd rfl (Or.inl rfl))
    (pss_cons (ps_if (pt_cmpR (op_eqD hr.units) (pv 2) (pe_tup pa_nil) (nomark _))
    (pss_one ps_never)
    pss_nil)
    (pss_one (ps_if (pt_not (pt_val (pe_call Gis_ascending (hr.mono (by omega)) (by rfl) T.mis_ascending T.Fis_ascending.kp T.bis_ascending .nil pass0 (pa_cons (pv 2) (pa_cons (pe_un un_neg pe_int) (pa_cons (pe_callB call_len_seq (by rfl) T.z_len PySem.boot_len (pa_cons (pv 0) pa_nil)) pa_nil))))))
    (pss_one ps_never)
    pss_nil))))))), ?_⟩
  refine ⟨_, rfl, b0, rfl, ⟨_, sqt e0⟩, for_tup (K := K) (a := b0) (xs := xs) (fun (j : Nat) (σ : L2.St) (H' : Hp) => ∃ (y1 y2 : Option V), σ = [some (.ref b0), y1, y2] ∧ Same H H') ?_ ?_ ?_ ?_⟩
  · exact ⟨none, none, rfl, Same.refl H⟩
  · rintro j σ H' _ ⟨y1, y2, rfl, s1⟩
    exact sqt (s1 _ _ e0)
  · rintro j x σ H1 hx ⟨y1, y2, rfl, s1⟩
    have hj : j < A0.length := by
      rw [← hxs.1]
      exact (List.getElem?_eq_some_iff.mp hx).1
    have hos := List.getElem?_eq_getElem hj
    generalize A0[j] = os at hos
    obtain ⟨b1, zs, rfl, e1, hzs⟩ := hxs.2 j os x hos hx
    have hgo := (hG.2 os (List.mem_of_getElem? hos)).2
    refine ⟨_, rfl, b1, rfl, ⟨_, sqt (s1 _ _ e1)⟩, for_tup (K := K) (a := b1) (xs := zs) (fun (i : Nat) (σ : L2.St) (H' : Hp) => ∃ (y2 : Option V), σ = [some (.ref b0), some (.ref b1), y2] ∧ Same H H') ?_ ?_ ?_ ?_⟩
    · exact ⟨y2, rfl, s1⟩
    · rintro i σ H' _ ⟨y2, rfl, s2⟩
      exact sqt (s2 _ _ e1)
    · rintro i x σ H2 hx2 ⟨y2, rfl, s2⟩
      have hi : i < os.length := by
        rw [← hzs.1]
        exact (List.getElem?_eq_some_iff.mp hx2).1
      have ho := List.getElem?_eq_getElem hi
      generalize os[i] = o at ho
      obtain ⟨b2, rfl, e2⟩ := hzs.2 i o x ho hx2
      have hgo2 := hgo o (List.mem_of_getElem? ho)
      have e2' := s2 _ _ e2
      refine ⟨_, rfl, Nat.zero_le _, fun te hte => ?_⟩
      have s3 := same_new hte (.tup [])
      refine ⟨.tuple (o.map PyData.int), .tuple [], .tup (sqt (s3 _ _ e2')) (dp_ints o), .tup (sqt upd_same) .nil, shaped_tup o, rfl, _, rfl, ?_⟩
      have s23 := s2.trans s3
      generalize upd H2 te (.tup []) = H3 at s3 s23 ⊢
      cases o with
      | nil => exact absurd rfl hgo2.ne
      | cons a r =>
        refine ifF rfl ?_
        refine ⟨_, rfl, _, rfl, _, rfl, b0, _, rfl, .inr (sqt (s23 _ _ e0)), b2, a :: r, -1, _, rfl, s3 _ _ e2', _, rfl, ?_⟩
        have hb : ascB (-1) ((xs.length : Nat) : Int) (a :: r) = true := asc_good (fun s hs => by rw [hxs.1]; exact hgo2.mem s hs) hgo2.asc
        rw [hb]
        exact iteF ⟨_, rfl, s23⟩
    · rintro σ H2 ⟨y2, rfl, s2⟩
      exact ⟨_, _, rfl, s2⟩
  · rintro σ H1 ⟨y1, y2, rfl, s1⟩
    exact q _ s1
end
end NL

set_option maxHeartbeats 4000000
namespace NL
open PySem PySem.Spec PyProof.Rows L2
/-! ### the number of a pair -/
def nmF (m : Nat) (a : Int) (q : List Int) : Int := q.foldl (fun n x => n * (m : Int) + x) a
theorem nmF_snoc (m : Nat) (a : Int) (q : List Int) (x : Int) : nmF m a (q ++ [x]) = nmF m a q * (m : Int) + x := by
  unfold nmF
  rw [List.foldl_append]
  rfl
theorem nmF_qu {m : Nat} (a : Int) : ∀ {d z : Nat} {q : List Int}, (quF m d)[z]? = some q → nmF m a q = a * ((m ^ d : Nat) : Int) + (z : Int)
  | 0, z, q, h => by
    have hz := (List.getElem?_eq_some_iff.mp h).1
    have hz' : z < 1 := hz
    have e0 : z = 0 := by omega
    subst e0
    have h' : some ([] : List Int) = some q := h
    rw [← Option.some.inj h', Nat.pow_zero]
    show a = a * 1 + 0
    omega
  | d + 1, z, q, h => by
    obtain ⟨q', h1, rfl⟩ := quF_last h
    have e : ((z / m : Nat) : Int) * (m : Int) + ((z % m : Nat) : Int) = (z : Int) := by
      rw [← Int.natCast_mul, ← Int.natCast_add, Nat.mul_comm, Nat.div_add_mod]
    rw [nmF_snoc, nmF_qu a h1, Nat.pow_succ, Int.natCast_mul, Int.add_mul, Int.mul_assoc, Int.add_assoc, e]
theorem flt_dl {o : Opt} (c r : Nat) (hp : o.Pairwise (· < ·)) (hl : ∀ s ∈ o, -1 ≤ s) :
    (o.filter fun x => decide (x < 0)) ++ ((o.filter fun x => decide (0 ≤ x)).map fun a => a * (c : Int) + (r : Int)) = o.map (dlI c r) := by
  have nn : ∀ l : List Int, (∀ s ∈ l, 0 ≤ s) → (l.filter fun x => decide (x < 0)) = [] ∧ (l.filter fun x => decide (0 ≤ x)) = l ∧ (l.map fun a => a * (c : Int) + (r : Int)) = l.map (dlI c r) := fun l h => by
    refine ⟨List.filter_eq_nil_iff.mpr fun x hx => by have := h x hx; simp; omega, List.filter_eq_self.mpr fun x hx => decide_eq_true (h x hx), List.map_congr_left fun x hx => ?_⟩
    have := h x hx
    unfold dlI
    rw [if_neg (by omega)]
  cases o with
  | nil => rfl
  | cons a t =>
    obtain ⟨h1, h2⟩ := List.pairwise_cons.mp hp
    have ha := hl a List.mem_cons_self
    obtain ⟨n1, n2, n3⟩ := nn t fun s hs => by have := h1 s hs; omega
    rw [List.filter_cons, List.filter_cons, n1, n2]
    by_cases e : a = -1
    · rw [if_pos (decide_eq_true (by omega)), if_neg (by rw [decide_eq_false (by omega)]; exact Bool.false_ne_true), n3, List.map_cons]
      unfold dlI
      rw [if_pos e, e]
      rfl
    · rw [if_neg (by rw [decide_eq_false (by omega)]; exact Bool.false_ne_true), if_pos (decide_eq_true (by omega)), List.map_cons, List.map_cons, n3, List.nil_append]
      congr 1
      unfold dlI
      rw [if_neg e]
theorem mx_mst {A : Ar} {mi : Int} (h0 : mi ∈ (0 : Int) :: A.map fun os : Pos' => ((os.length : Nat) : Int)) (h1 : ∀ y, y ∈ (0 : Int) :: (A.map fun os : Pos' => ((os.length : Nat) : Int)) → y ≤ mi) : mi = ((mst A : Nat) : Int) := by
  have ub : ∀ n : Nat, mi ≤ n → mst A ≤ n := fun n hn => mst_ub fun os ho => by
    have := h1 _ (List.mem_cons_of_mem _ (List.mem_map_of_mem ho))
    omega
  rcases List.mem_cons.mp h0 with rfl | h
  · have := ub 0 (Int.le_refl 0)
    omega
  · obtain ⟨os, ho, rfl⟩ := List.mem_map.mp h
    have a := ub os.length (Int.le_refl _)
    have b := mst_le ho
    omega
theorem prF_s (n m d : Nat) : prF (n + 1) m d = prF n m d ++ (quF m d).map fun q => (n, q) := by
  unfold prF
  rw [List.range_succ, List.flatMap_append, List.flatMap_cons, List.flatMap_nil, List.append_nil]
/-- the queue and the pick behind it -/
theorem qu_pick {m d r j : Nat} {q : List Int} (h : (quF m d)[r]? = some q) (hj : j < m) : ∃ rest, q ++ [(j : Int)] = (((r * m + j) / m ^ d : Nat) : Int) :: rest ∧ (quF m d)[(r * m + j) % m ^ d]? = some rest := by
  have e : (quF m (d + 1))[r * m + j]? = some (q ++ [(j : Int)]) := by
    show ((quF m d).flatMap (snQ m))[r * m + j]? = _
    rw [fm_at (c := m) (fun x _ => snQ_len m x) h hj, snQ_at hj]
  obtain ⟨rest, h1, h2⟩ := quF_first e
  exact ⟨rest, h2, h1⟩
theorem filt_s {o : Opt} {i : Nat} {a : Int} (f : Int → Bool) (h : o[i]? = some a) : (o.take (i + 1)).filter f = (o.take i).filter f ++ (if f a = true then [a] else []) := by
  rw [List.take_add_one, h, List.filter_append]
  congr 1
  show List.filter f [a] = _
  rw [List.filter_cons]
  rfl
section
variable {P : Program} {w : World} {K : PySem.W.Frag} {mg : Str → Option Value} {base : Heap}
/-! ### _law_number -/
def spNum : Sp := fun vs H Q _ => ∃ (a : Int) (b : Addr) (q : List Int) (m : Nat), vs = [.int a, .ref b, .int (m : Nat)] ∧ H b = some (.tup (q.map V.int)) ∧ m ≤ 1000 ∧ Q (.int (nmF m a q)) H
theorem ok_law_number (T : Txt K mg) : FnOk P w K mg base CX0 1 T.a_law_number T.d_law_number P_law_number spNum := by
  refine T.F_law_number.ok sc_law_number (fun vs H Q E h => ?_) (fun cdv A outer s H vs Q E hr h => ?_)
  · obtain ⟨a, b, q, m, rfl, _⟩ := h
    rfl
  obtain ⟨a, b, q, m, rfl, eb, hm, qq⟩ := h
  refine ⟨_, (pss_cons (ps_set (i := 3) sc_law_number.nd rfl (Or.inl rfl) (pv 0))
    (pss_cons (ps_for  PassesOwn.never rfl (pi_tup (pv 1)) (pg_name (i := 4) sc_law_number.nd rfl (Or.inl rfl))
    (pss_one (ps_set (i := 3) sc_law_number.nd rfl (Or.inl rfl) (pe_op op_add (pe_op op_mul (pv 3) (pv 2)) (pv 4)))))
    (pss_one (ps_ret (pv 3))))), ?_⟩
  refine ⟨_, rfl, ?_⟩
  refine ⟨_, rfl, b, rfl, ⟨_, sqt eb⟩, for_tup (K := K) (a := b) (xs := q.map V.int) (fun (j : Nat) (σ : L2.St) (H' : Hp) => ∃ y : Option V, σ = [some (.int a), some (.ref b), some (.int (m : Nat)), some (.int (nmF m a (q.take j))), y] ∧ H' = H) ?_ ?_ ?_ ?_⟩
  · exact ⟨none, rfl, rfl⟩
  · rintro j σ H' _ ⟨y, rfl, rfl⟩
    exact sqt eb
  · rintro j x σ H' hx ⟨y, rfl, rfl⟩
    rw [List.getElem?_map] at hx
    obtain ⟨i, hi, rfl⟩ := Option.map_eq_some_iff.mp hx
    have e : nmF m a (q.take (j + 1)) = nmF m a (q.take j) * (m : Int) + i := by
      rw [List.take_add_one, hi]
      exact nmF_snoc ..
    refine ⟨_, rfl, _, rfl, _, _, rfl, rfl, .inr ⟨by omega, by omega⟩, _, rfl, _, _, rfl, rfl, some (.int i), ?_, rfl⟩
    rw [e]
    rfl
  · rintro σ H' ⟨y, rfl, rfl⟩
    rw [List.length_map, List.take_length]
    exact ⟨_, rfl, qq⟩
/-! ### _law_queues -/
def spQuL : Sp := fun vs H Q _ => ∃ (m d : Nat), vs = [.int (m : Nat), .int (d : Nat)] ∧ m ≤ 100 ∧ d ≤ 100 ∧ m ^ d ≤ 1000 ∧ ∀ p zs H', Same H H' → H' p = some (.lst zs) → Each (OptIn H') (quF m d) zs → Q (.ref p) H'
theorem ok_law_queues (T : Txt K mg) : FnOk P w K mg base CX0 1 T.a_law_queues T.d_law_queues P_law_queues spQuL := by
  refine T.F_law_queues.ok sc_law_queues (fun vs H Q E h => ?_) (fun cdv A outer s H vs Q E hr h => ?_)
  · obtain ⟨m, d, rfl, _⟩ := h
    rfl
  obtain ⟨m, d, rfl, hm, hd, hmd, q⟩ := h
  refine ⟨_, (pss_cons (ps_set (i := 2) sc_law_queues.nd rfl (Or.inl rfl) (pe_lst (pa_cons (pe_tup pa_nil) pa_nil)))
    (pss_cons (ps_for  PassesOwn.never rfl (pi_range1 (by rfl) T.z_range (pa_cons (pv 1) pa_nil)) (pg_name (i := 3) sc_law_queues.nd rfl (Or.inl rfl))
    (pss_cons (ps_set (i := 4) sc_law_queues.nd rfl (Or.inl rfl) (pe_lst pa_nil))
    (pss_cons (ps_for  PassesOwn.never rfl (pi_list (pv 2)) (pg_name (i := 5) sc_law_queues.nd rfl (Or.inr rfl))
    (pss_one (ps_set (i := 4) sc_law_queues.nd rfl (Or.inl rfl) (pe_op op_cat (pv 4) (pe_lc (own := [("index", 6)]) (g := (gName 6)) (tt := tYes) rfl sc_law_queues.nd (pi_range1 (by rfl) T.z_range (pa_cons (pv 0) pa_nil)) (blkOk_by (N := N_law_queues) (sc := defScope s_law_queues) (by decide +kernel)) (fun _ _ _ _ _ => (pg_name (i := 6) sc_law_queues.nd rfl (Or.inl rfl))) (fun _ _ _ _ _ => pts_nil) (fun _ _ _ _ _ => (pe_op (op_catAK (K := K) rfl) (pv 5) (pe_tup (pa_cons (pv 6) pa_nil)))))))))
    (pss_one (ps_set (i := 2) sc_law_queues.nd rfl (Or.inl rfl) (pv 4))))))
    (pss_one (ps_ret (pv 2))))), ?_⟩
  refine ⟨Nat.zero_le _, fun t0 ht0 => ?_⟩
  obtain ⟨H1, e1, s1, k1⟩ := newH ht0 (.tup [])
  rw [e1]
  refine ⟨Nat.le_of_ble_eq_true rfl, fun r0 hr0 => ?_⟩
  obtain ⟨H2, e2, s2, k2⟩ := newH hr0 (.lst [.ref t0])
  rw [e2]
  refine ⟨_, rfl, _, rfl, by omega, by omega, for_range (lo := 0) (n := ((d : Nat) : Int).toNat) (fun (j : Nat) (σ : L2.St) (H' : Hp) => ∃ (rp : Addr) (ys : List V) (y3 y4 y5 y6 : Option V), σ = [some (.int (m : Nat)), some (.int (d : Nat)), some (.ref rp), y3, y4, y5, y6] ∧ Same H H' ∧ H' rp = some (.lst ys) ∧ Each (OptIn H') (quF m j) ys) ?_ ?_ ?_⟩
  · exact ⟨r0, _, none, none, none, none, rfl, s1.trans s2, k2, .cons ⟨t0, rfl, s2 _ _ k1⟩ .nil⟩
  · rintro j σ H3 hj ⟨rp, ys, y3, y4, y5, y6, rfl, s3, k3, hys⟩
    have hjd : j < d := by omega
    have hyl := hys.1
    have hcj : m ^ (j + 1) ≤ 1000 := by
      rcases Nat.eq_zero_or_pos m with e | e
      · rw [e, Nat.pow_succ, Nat.mul_zero]
        omega
      · exact Nat.le_trans (Nat.pow_le_pow_right e (show j + 1 ≤ d by omega)) hmd
    rw [Nat.pow_succ] at hcj
    have hql := quF_len m j
    refine ⟨Nat.zero_le _, fun l0 hl0 => ?_⟩
    obtain ⟨H4, e4, s4, k4⟩ := newH hl0 (.lst [])
    rw [e4]
    refine ⟨_, rfl, rp, rfl, ⟨_, sqd (s4 _ _ k3)⟩, ?_⟩
    refine for_list (K := K) (a := rp) (xs := ys) (fun (i : Nat) (σ : L2.St) (H' : Hp) => ∃ (lp : Addr) (zs : List V) (y5 y6 : Option V), σ = [some (.int (m : Nat)), some (.int (d : Nat)), some (.ref rp), some (.int (0 + (j : Int))), some (.ref lp), y5, y6] ∧ Same H4 H' ∧ H' lp = some (.lst zs) ∧ Each (OptIn H') (((quF m j).take i).flatMap (snQ m)) zs) ?_ ?_ ?_ ?_
    · exact ⟨l0, [], _, _, rfl, Same.refl H4, k4, .nil⟩
    · rintro i σ H' _ ⟨lp, zs, y5, y6, rfl, s5, _⟩
      exact sqd ((s4.trans s5) _ _ k3)
    · rintro i x σ H5 hx ⟨lp, zs, y5, y6, rfl, s5, k5, hzs⟩
      have hil := (List.getElem?_eq_some_iff.mp hx).1
      have hqi := List.getElem?_eq_getElem (show i < (quF m j).length by omega)
      generalize (quF m j)[i] = qq at hqi
      obtain ⟨bq, rfl, eq⟩ := hys.2 i qq x hqi hx
      have hqq := (quF_lenq (List.mem_of_getElem? hqi)).1
      have hzl := hzs.1
      rw [fm_len (c := m) fun x _ => snQ_len m x, List.length_take, Nat.min_eq_left (by omega)] at hzl
      have hbig : i * m + m ≤ 1000 := by
        have h5 : (i + 1) * m ≤ m ^ j * m := Nat.mul_le_mul_right _ (by omega)
        rw [Nat.succ_mul] at h5
        omega
      have s35 := s4.trans s5
      refine ⟨_, rfl, _, rfl, _, rfl, by omega, by omega, fun D hD => ?_⟩
      refine lc_range (lo := 0) (n := ((m : Nat) : Int).toNat) (fun (k : Nat) (H' : Hp) => ∃ ws, Same H5 H' ∧ H' D = some (.lst ws) ∧ Each (OptIn H') ((snQ m qq).take k) ws) ?_ ?_ ?_
      · exact ⟨[], same_new hD _, upd_same, .nil⟩
      · rintro k H6 hk ⟨ws, s6, k6, hws⟩
        have hkm : k < m := by omega
        have hwl := hws.1
        rw [List.length_take, snQ_len] at hwl
        refine ⟨rfl, yes_if ?_⟩
        refine ⟨_, rfl, _, rfl, Nat.le_of_ble_eq_true rfl, fun t1 ht1 => ?_⟩
        obtain ⟨H7, e7, s7, k7⟩ := newH ht1 (.tup [.int (0 + (k : Int))])
        rw [show upd H6 t1 (.tup [.int (0 + (k : Int))]) = H7 from e7]
        refine catA_of (K := K) (s7 _ _ (s6 _ _ (s35 _ _ eq))) k7 (by rw [List.length_map, List.length_singleton]; omega) fun p H8 s8 k8 => ?_
        have s78 := s7.trans s8
        have d8 := s78 _ _ k6
        have tt : Tp H8 (upd H8 D (.lst (ws ++ [.ref p]))) := tp_put Tp.refl d8
        refine ⟨ws, d8, big' (by omega), ws ++ [.ref p], same_put (s6.trans s78) hD, upd_same, ?_⟩
        rw [List.take_add_one, snQ_at hkm]
        refine (hws.mono fun o x => OptIn.tp ((Tp.same s78).trans tt)).snoc ⟨p, rfl, tt _ _ ?_⟩
        rw [k8, List.map_append, Int.zero_add]
        rfl
      · rintro H6 ⟨ws, s6, k6, hws⟩
        rw [List.take_of_length_le (l := snQ m qq) (by rw [snQ_len]; omega)] at hws
        have hwl := hws.1
        rw [snQ_len] at hwl
        refine ⟨lp, D, zs, ws, rfl, rfl, s6 _ _ k5, k6, big (by omega), fun np hnp => ?_⟩
        have s7 := same_new hnp (.lst (zs ++ ws))
        refine ⟨np, zs ++ ws, _, _, rfl, s5.trans (s6.trans s7), upd_same, ?_⟩
        rw [take_blk hqi]
        exact (hzs.mono fun o x => OptIn.tp (Tp.same (s6.trans s7))).app (hws.mono fun o x => OptIn.tp (Tp.same s7))
    · rintro σ H5 ⟨lp, zs, y5, y6, rfl, s5, k5, hzs⟩
      rw [hyl, List.take_length] at hzs
      exact ⟨_, rfl, lp, zs, _, _, _, _, rfl, s3.trans (s4.trans s5), k5, hzs⟩
  · rintro σ H3 ⟨rp, ys, y3, y4, y5, y6, rfl, s3, k3, hys⟩
    rw [Int.toNat_natCast] at hys
    exact ⟨_, rfl, q rp ys H3 s3 k3 hys⟩
/-! ### _law_delayed -/
def spDelL : Sp := fun vs H Q _ => ∃ (v : V) (A : Ar) (d : Nat), vs = [v, .int (d : Nat)] ∧ ArIn H A v ∧ DlG A d ∧ ∀ p a b zs H', Same H H' → H' p = some (.tup [a, .ref b]) → ArIn H' (dlA A d) a → H' b = some (.tup zs) → Each (PairIn H') (prF A.length (mst A) d) zs → Q (.ref p) H'
theorem ok_law_delayed (T : Txt K mg) : FnOk P w K mg base CX0 2 T.a_law_delayed T.d_law_delayed P_law_delayed spDelL := by
  have G_law_number := ok_law_number (P := P) (w := w) (base := base) T
  have G_law_queues := ok_law_queues (P := P) (w := w) (base := base) T
  refine T.F_law_delayed.ok sc_law_delayed (fun vs H Q E h => ?_) (fun cdv A outer s H vs Q E hr h => ?_)
  · obtain ⟨v, A, d, rfl, _⟩ := h
    rfl
  obtain ⟨v, A0, d, rfl, ⟨b0, xs, rfl, e0, hxs⟩, hG, q⟩ := h
  have hxl := hxs.1
  have hlen := hG.len
  have hmst := hG.m
  have hcc := hG.c
  have hall := hG.all
  refine ⟨_, (pss_cons (ps_set (i := 2) sc_law_delayed.nd rfl (Or.inr rfl) (pe_callB (cr_max rfl) (by rfl) T.z_max (by decide +kernel) (pa_cons (pe_op op_cat (pe_lst (pa_cons pe_int pa_nil)) (pe_lc (own := [("options", 3)]) (g := (gName 3)) (tt := tYes) rfl sc_law_delayed.nd (pi_tup (pv 0)) (blkOk_by (N := N_law_delayed) (sc := defScope s_law_delayed) (by decide +kernel)) (fun _ _ _ _ _ => (pg_name (i := 3) sc_law_delayed.nd rfl (Or.inl rfl))) (fun _ _ _ _ _ => pts_nil) (fun _ _ _ _ _ => (pe_callB (call_len_seqK (K := K) rfl) (by rfl) T.z_len PySem.boot_len (pa_cons (pv 3) pa_nil))))) pa_nil)))
    (pss_cons (ps_set (i := 4) sc_law_delayed.nd rfl (Or.inl rfl) (pe_lst pa_nil))
    (pss_cons (ps_for  PassesOwn.never rfl (pi_range1 (by rfl) T.z_range (pa_cons (pe_callB call_len_seq (by rfl) T.z_len PySem.boot_len (pa_cons (pv 0) pa_nil)) pa_nil)) (pg_name (i := 5) sc_law_delayed.nd rfl (Or.inr rfl))
    (pss_one (ps_set (i := 4) sc_law_delayed.nd rfl (Or.inl rfl) (pe_op op_cat (pv 4) (pe_lc (own := [("queue", 6)]) (g := (gName 6)) (tt := tYes) rfl sc_law_delayed.nd (pi_list (pe_call G_law_queues (hr.mono (by omega)) (by rfl) T.m_law_queues T.F_law_queues.kp T.b_law_queues .nil pass0 (pa_cons (pv 2) (pa_cons (pv 1) pa_nil)))) (blkOk_by (N := N_law_delayed) (sc := defScope s_law_delayed) (by decide +kernel)) (fun _ _ _ _ _ => (pg_name (i := 6) sc_law_delayed.nd rfl (Or.inl rfl))) (fun _ _ _ _ _ => pts_nil) (fun _ _ _ _ _ => (pe_tup (pa_cons (pv 5) (pa_cons (pv 6) pa_nil)))))))))
    (pss_cons (ps_set (i := 7) sc_law_delayed.nd rfl (Or.inl rfl) (pe_lst pa_nil))
    (pss_cons (ps_for  PassesOwn.never rfl (pi_list (pv 4)) (pg_name (i := 8) sc_law_delayed.nd rfl (Or.inl rfl))
    (pss_cons (ps_set (i := 3) sc_law_delayed.nd rfl (Or.inl rfl) (pe_lst pa_nil))
    (pss_cons (ps_for  PassesOwn.never rfl (pi_range1 (by rfl) T.z_range (pa_cons (pv 2) pa_nil)) (pg_name (i := 9) sc_law_delayed.nd rfl (Or.inl rfl))
    (pss_cons (ps_set (i := 6) sc_law_delayed.nd rfl (Or.inr rfl) (pe_op op_catA (pe_ix ix_tup (pv 8) pe_int (fun _ _ => rfl)) (pe_tup (pa_cons (pv 9) pa_nil))))
    (pss_cons (ps_set (i := 10) sc_law_delayed.nd rfl (Or.inl rfl) (pe_tup (pa_cons (pe_un un_neg pe_int) pa_nil)))
    (C8.pss_cut (ps_if (pt_cmpR op_lt (pe_ix ix_tup (pv 6) pe_int (fun _ _ => rfl)) (pe_callB call_len_seq (by rfl) T.z_len PySem.boot_len (pa_cons (pe_ix ix_tup (pv 0) (pe_ix ix_tup (pv 8) pe_int (fun _ _ => rfl)) (fun _ _ => rfl)) pa_nil)) (nomark _))
    (pss_one (ps_set (i := 10) sc_law_delayed.nd rfl (Or.inl rfl) (pe_ix ix_tup (pe_ix ix_tup (pv 0) (pe_ix ix_tup (pv 8) pe_int (fun _ _ => rfl)) (fun _ _ => rfl)) (pe_ix ix_tup (pv 6) pe_int (fun _ _ => rfl)) (fun _ _ => rfl))))
    pss_nil)
    (pss_cons (ps_setLc (i := 11) (own := [("reply", 12)]) (g := (gName 12)) (tt := _) rfl sc_law_delayed.nd rfl rfl (sw_true rfl rfl rfl (by decide +kernel)) (pi_tup (pv 10)) (blkOk_by (N := N_law_delayed) (sc := defScope s_law_delayed) (by decide +kernel)) (fun _ _ _ _ _ => (pg_name (i := 12) sc_law_delayed.nd rfl (Or.inl rfl))) (fun _ _ _ _ _ => (pts_one (pt_cmpR op_ge (pv 12) pe_int (nomark _)))) (fun _ _ _ _ _ => (pe_call G_law_number (hr.mono (by omega)) (by rfl) T.m_law_number T.F_law_number.kp T.b_law_number .nil pass0 (pa_cons (pv 12) (pa_cons (pe_slice (sl_tupAK (K := K) rfl) (pv 6) (po_some pe_int) po_none) (pa_cons (pv 2) pa_nil))))))
    (pss_one (ps_expr (pe_bm PySem.F.plainAttrs_list PySem.F.slot_list_append PySem.F.type_list_append mt_append (pv 3) (pa_cons (pe_callTy call_tuple_of (by rfl) T.z_tuple (by decide +kernel) (pa_cons (pe_op op_cat (pe_lc (own := [("reply", 12)]) (g := (gName 12)) (tt := _) rfl sc_law_delayed.nd (pi_tup (pv 10)) (blkOk_by (N := N_law_delayed) (sc := defScope s_law_delayed) (by decide +kernel)) (fun _ _ _ _ _ => (pg_name (i := 12) sc_law_delayed.nd rfl (Or.inl rfl))) (fun _ _ _ _ _ => (pts_one (pt_cmpR op_lt (pv 12) pe_int (nomark _)))) (fun _ _ _ _ _ => (pv 12))) (pv 11)) pa_nil)) pa_nil)))))))))
    (pss_one (ps_expr (pe_bm PySem.F.plainAttrs_list PySem.F.slot_list_append PySem.F.type_list_append mt_append (pv 7) (pa_cons (pe_callTy call_tuple_of (by rfl) T.z_tuple (by decide +kernel) (pa_cons (pv 3) pa_nil)) pa_nil)))))))
    (pss_one (ps_ret (pe_tup (pa_cons (pe_callTy call_tuple_of (by rfl) T.z_tuple (by decide +kernel) (pa_cons (pv 7) pa_nil)) (pa_cons (pe_callTy call_tuple_of (by rfl) T.z_tuple (by decide +kernel) (pa_cons (pv 4) pa_nil)) pa_nil)))))))))), ?_⟩
  refine ⟨Nat.le_of_ble_eq_true rfl, fun l0 hl0 => ?_⟩
  obtain ⟨H1, E1, s1, k1⟩ := newH hl0 (.lst [.int 0])
  rw [show upd H l0 (.lst [.int 0]) = H1 from E1]
  refine ⟨_, rfl, b0, rfl, ⟨_, sqt (s1 _ _ e0)⟩, fun L hL => ?_⟩
  refine lc_tup (K := K) (a := b0) (xs := xs) (fun (j : Nat) (H' : Hp) => Same H1 H' ∧ H' L = some (.lst (((A0.take j).map fun os : Pos' => ((os.length : Nat) : Int)).map V.int))) ?_ ?_ ?_ ?_
  · exact ⟨same_new hL _, upd_same⟩
  · rintro j H' _ ⟨s2, _⟩
    exact sqt ((s1.trans s2) _ _ e0)
  · rintro j x H2 hx ⟨s2, k2⟩
    have hjl := (List.getElem?_eq_some_iff.mp hx).1
    have hos := List.getElem?_eq_getElem (show j < A0.length by omega)
    generalize A0[j] = os at hos
    obtain ⟨b1, ys, rfl, e1, hys⟩ := hxs.2 j os x hos hx
    refine ⟨rfl, yes_if ?_⟩
    refine ⟨_, rfl, b1, _, rfl, .inr (sqt ((s1.trans s2) _ _ e1)), _, k2, big' (by rw [List.length_map, List.length_map, List.length_take]; omega), same_put s2 hL, ?_⟩
    rw [upd_same, List.take_add_one, hos, List.map_append, List.map_append, hys.1]
    rfl
  rintro H2 ⟨s2, k2⟩
  rw [hxl, List.take_length] at k2
  refine ⟨l0, L, _, _, rfl, rfl, s2 _ _ k1, k2, big (by rw [List.length_map, List.length_map, List.length_singleton]; omega), fun p3 hp3 => ?_⟩
  obtain ⟨H3, E3, s3, k3⟩ := newH hp3 (.lst ([.int 0] ++ ((A0.map fun os : Pos' => ((os.length : Nat) : Int)).map V.int)))
  rw [E3]
  refine ⟨p3, (0 : Int) :: (A0.map fun os : Pos' => ((os.length : Nat) : Int)), rfl, sqd k3, Nat.succ_pos _, fun mi hm0 hm1 => ?_⟩
  obtain rfl := mx_mst hm0 hm1
  generalize hM : mst A0 = M at *
  generalize hC : M ^ d = c at *
  refine ⟨Nat.zero_le _, fun pl hpl => ?_⟩
  obtain ⟨H4, E4, s4, k4⟩ := newH hpl (.lst [])
  rw [E4]
  have s04 := ((s1.trans s2).trans s3).trans s4
  refine ⟨_, rfl, b0, _, rfl, .inr (sqt (s04 _ _ e0)), _, rfl, by omega, by omega, ?_⟩
  have hpl1 : ∀ i : Nat, (prF i M d).length = i * c := fun i => by rw [prF_len, hC]
  refine for_range (lo := 0) (n := ((xs.length : Nat) : Int).toNat) (fun (i : Nat) (σ : L2.St) (H' : Hp) => ∃ (pp : Addr) (zs : List V) (y3 y5 y6 : Option V), σ = [some (.ref b0), some (.int (d : Nat)), some (.int (M : Nat)), y3, some (.ref pp), y5, y6, none, none, none, none, none, none] ∧ Same H H' ∧ H' pp = some (.lst zs) ∧ Each (PairIn H') (prF i M d) zs) ?_ ?_ ?_
  · exact ⟨pl, [], _, _, _, rfl, s04, k4, .nil⟩
  · rintro i σ H5 hi ⟨pp, zs, y3, y5, y6, rfl, s5, k5, hzs⟩
    have hil : i < A0.length := by omega
    have hzl := hzs.1
    rw [hpl1] at hzl
    have hib : (i + 1) * c ≤ A0.length * c := Nat.mul_le_mul_right _ hil
    rw [Nat.succ_mul] at hib
    refine ⟨_, rfl, _, rfl, _, rfl, M, d, rfl, by omega, hG.dd, by rw [hC]; exact hcc, fun qp qs H6 s6 k6 hqs => ?_⟩
    have hql := hqs.1
    rw [quF_len, hC] at hql
    refine ⟨qp, rfl, ⟨_, sqd k6⟩, fun D hD => ?_⟩
    refine lc_list (K := K) (a := qp) (xs := qs) (fun (k : Nat) (H' : Hp) => ∃ ws, Same H6 H' ∧ H' D = some (.lst ws) ∧ Each (PairIn H') (((quF M d).take k).map fun q => (i, q)) ws) ?_ ?_ ?_ ?_
    · exact ⟨[], same_new hD _, upd_same, .nil⟩
    · rintro k H' _ ⟨ws, s7, _⟩
      exact sqd (s7 _ _ k6)
    · rintro k x H7 hx ⟨ws, s7, k7, hws⟩
      have hkl := (List.getElem?_eq_some_iff.mp hx).1
      obtain ⟨qq, hqk⟩ : ∃ qq, (quF M d)[k]? = some qq := ⟨_, List.getElem?_eq_getElem (by rw [quF_len, hC]; omega)⟩
      obtain ⟨bq, rfl, eq⟩ := hqs.2 k qq x hqk hx
      have hwl := hws.1
      rw [List.length_map, List.length_take] at hwl
      refine ⟨rfl, yes_if ?_⟩
      refine ⟨_, rfl, _, rfl, Nat.le_of_ble_eq_true rfl, fun t ht => ?_⟩
      obtain ⟨H8, E8, s8, k8⟩ := newH ht (.tup [.int (0 + (i : Int)), .ref bq])
      rw [E8]
      have d8 := s8 _ _ k7
      have tt : Tp H8 (upd H8 D (.lst (ws ++ [.ref t]))) := tp_put Tp.refl d8
      refine ⟨ws, d8, big' (by omega), ws ++ [.ref t], same_put (s7.trans s8) hD, upd_same, ?_⟩
      rw [List.take_add_one, hqk, List.map_append]
      refine (hws.mono fun o x => PairIn.tp ((Tp.same s8).trans tt)).snoc ⟨t, bq, rfl, tt _ _ ?_, tt _ _ ((s7.trans s8) _ _ eq)⟩
      rw [k8, Int.zero_add]
    · rintro H7 ⟨ws, s7, k7, hws⟩
      rw [List.take_of_length_le (by rw [quF_len, hC]; omega)] at hws
      have hwl := hws.1
      rw [List.length_map, quF_len, hC] at hwl
      have s67 := s6.trans s7
      refine ⟨pp, D, zs, ws, rfl, rfl, s67 _ _ k5, k7, big (by omega), fun np hnp => ?_⟩
      have s8 := same_new hnp (.lst (zs ++ ws))
      refine ⟨np, zs ++ ws, _, _, _, rfl, s5.trans (s67.trans s8), upd_same, ?_⟩
      rw [prF_s]
      exact (hzs.mono fun o x => PairIn.tp (Tp.same (s67.trans s8))).app (hws.mono fun o x => PairIn.tp (Tp.same s8))
  rintro σ H5 ⟨pp, zs, y3, u5, y6, rfl, s5, k5, hzs⟩
  rw [show ((xs.length : Nat) : Int).toNat = A0.length by omega] at hzs
  have hzl := hzs.1
  rw [hpl1] at hzl
  have hdl : (dlA A0 d).length = A0.length * c := by rw [dlA_len, hM, hC]
  refine ⟨Nat.zero_le _, fun fl hfl => ?_⟩
  obtain ⟨H6, E6, s6, k6⟩ := newH hfl (.lst [])
  rw [E6]
  refine ⟨_, rfl, pp, rfl, ⟨_, sqd (s6 _ _ k5)⟩, ?_⟩
  refine for_list (K := K) (a := pp) (xs := zs) (fun (k : Nat) (σ : L2.St) (H' : Hp) => ∃ (ys : List V) (y3 y6 y8 y9 y10 y11 y12 : Option V), σ = [some (.ref b0), some (.int (d : Nat)), some (.int (M : Nat)), y3, some (.ref pp), u5, y6, some (.ref fl), y8, y9, y10, y11, y12] ∧ Same H5 H' ∧ H' fl = some (.lst ys) ∧ Each (PosIn H') ((dlA A0 d).take k) ys) ?_ ?_ ?_ ?_
  · exact ⟨[], _, _, _, _, _, _, _, rfl, s6, k6, .nil⟩
  · rintro k σ H' _ ⟨ys, y3, y6, y8, y9, y10, y11, y12, rfl, s7, _⟩
    exact sqd (s7 _ _ k5)
  · rintro k x σ H7 hx ⟨ys, y3, y6, y8, y9, y10, y11, y12, rfl, s7, k7, hys⟩
    have hkl := (List.getElem?_eq_some_iff.mp hx).1
    have hyl := hys.1
    rw [List.length_take] at hyl
    obtain ⟨qq, hpr, hqr, hkn⟩ := prF_at (n := A0.length) (m := M) (d := d) (k := k) (by rw [hC]; omega)
    rw [hC] at hpr hqr hkn
    obtain ⟨b, qa, rfl, eb, eqa⟩ := hzs.2 k _ x hpr hx
    have hos := List.getElem?_eq_getElem hkn
    generalize A0[k / c] = os at hos
    obtain ⟨x1, hx1, b1, os', rfl, e1, hosv⟩ := hxs.at hos
    have hol1 := hosv.1
    have hosG := hG.opt os (List.mem_of_getElem? hos)
    have hc0 : 0 < c := by
      rcases Nat.eq_zero_or_pos c with e | e
      · rw [e] at hzl
        omega
      · exact e
    have hrc := Nat.mod_lt k hc0
    generalize hr' : k % c = r at hqr hrc
    have hqlen : qq.length = d := (quF_lenq (List.mem_of_getElem? hqr)).1
    have hdd := hG.dd
    have hdk : (dlA A0 d)[k]? = some (dlP M c os r) := by
      have := dlA_at (d := d) (r := r) hos (by rw [hM, hC]; exact hrc)
      rw [hM, hC, ← hr', show k / c * c + k % c = k by rw [Nat.mul_comm]; exact Nat.div_add_mod k c] at this
      rw [this, hr']
    refine ⟨Nat.zero_le _, fun ol hol => ?_⟩
    obtain ⟨H8, E8, s8, k8⟩ := newH hol (.lst [])
    rw [E8]
    refine ⟨_, rfl, _, rfl, by omega, by omega, ?_⟩
    refine for_range (lo := 0) (n := ((M : Nat) : Int).toNat) (fun (j : Nat) (σ : L2.St) (H' : Hp) => ∃ (ts : List V) (y6 y9 y10 y11 y12 : Option V), σ = [some (.ref b0), some (.int (d : Nat)), some (.int (M : Nat)), some (.ref ol), some (.ref pp), u5, y6, some (.ref fl), some (.ref b), y9, y10, y11, y12] ∧ Same H7 H' ∧ H' ol = some (.lst ts) ∧ Each (OptIn H') ((dlP M c os r).take j) ts) ?_ ?_ ?_
    · exact ⟨[], _, _, _, _, _, rfl, s8, k8, .nil⟩
    · rintro j σ H9 hj ⟨ts, y6, y9, y10, y11, y12, rfl, s9, k9, hts⟩
      have hjM : j < M := by omega
      have htl := hts.1
      rw [List.length_take, dlP_len] at htl
      have s59 := s7.trans s9
      have s09 := s5.trans s59
      generalize hk : (0 : Int) + (j : Int) = pk
      have hpk : pk = (j : Int) := by omega
      clear hk
      subst hpk
      refine ⟨_, rfl, b, _, _, _, rfl, rfl, sqt (s59 _ _ eb), atI1, _, rfl, Nat.le_of_ble_eq_true rfl, fun t1 ht1 => ?_⟩
      obtain ⟨H10, E10, s10, k10⟩ := newH ht1 (.tup [.int (j : Int)])
      rw [show upd H9 t1 (.tup [.int (j : Int)]) = H10 from E10]
      refine catA_of (K := K) (s10 _ _ (s59 _ _ eqa)) k10 (by rw [List.length_map, List.length_singleton, show (k / c, qq).snd.length = d from hqlen]; omega) fun qn H11 s11 k11 => ?_
      obtain ⟨rest, hqe, hrest⟩ := qu_pick hqr hjM
      rw [hC] at hqe hrest
      rw [show (qq.map V.int ++ [V.int (j : Int)]) = (qq ++ [(j : Int)]).map V.int by rw [List.map_append]; rfl, hqe, List.map_cons] at k11
      refine ⟨_, rfl, Nat.le_of_ble_eq_true rfl, fun t2 ht2 => ?_⟩
      obtain ⟨H12, E12, s12, k12⟩ := newH ht2 (.tup [.int (-1)])
      rw [show upd H11 t2 (.tup [.int (-1)]) = H12 from E12]
      have s912 := s10.trans (s11.trans s12)
      have s012 := s09.trans s912
      have s512 := s59.trans s912
      have q12 := s12 _ _ k11
      have hdj := dlP_at (m := M) (c := c) (num := r) (os := os) hjM
      generalize hz : r * M + j = z at hqe hrest q12 hdj k11
      refine ⟨fun σ H' => ∃ (sp : Addr) (o : Opt), σ = [some (.ref b0), some (.int (d : Nat)), some (.int (M : Nat)), some (.ref ol), some (.ref pp), u5, some (.ref qn), some (.ref fl), some (.ref b), some (.int (j : Int)), some (.ref sp), y11, y12] ∧ H' = H12 ∧ H12 sp = some (.tup (o.map V.int)) ∧ o.length ≤ 60 ∧ o.Pairwise (· < ·) ∧ (∀ s ∈ o, -1 ≤ s) ∧ dlO os c z = o.map (dlI c (z % c)), ?_, ?_⟩
      · refine ⟨_, rfl, qn, _, _, _, rfl, rfl, sqt q12, atI0, _, rfl, _, rfl, b, _, _, _, rfl, rfl, sqt (s512 _ _ eb), atI0, b0, _, _, _, rfl, rfl, sqt (s012 _ _ e0), atI_nat hx1, b1, _, rfl, .inr (sqt (s012 _ _ e1)), _, _, rfl, rfl, _, rfl, ?_⟩
        by_cases hf : z / c < os.length
        · refine ifT (decide_eq_true (by rw [hol1]; omega)) ?_
          have ho := List.getElem?_eq_getElem hf
          generalize os[z / c] = o at ho
          obtain ⟨x2, hx2, bo, rfl, eo⟩ := hosv.at ho
          have hoG := hosG o (List.mem_of_getElem? ho)
          refine ⟨_, rfl, _, rfl, b, _, _, _, rfl, rfl, sqt (s512 _ _ eb), atI0, b0, _, _, _, rfl, rfl, sqt (s012 _ _ e0), atI_nat hx1, _, rfl, qn, _, _, _, rfl, rfl, sqt q12, atI0, b1, _, _, _, rfl, rfl, sqt (s012 _ _ e1), atI_nat hx2, ?_⟩
          refine ⟨bo, o, rfl, rfl, s012 _ _ eo, hoG.len, hoG.asc, fun s hs => (hoG.mem s hs).1, ?_⟩
          unfold dlO
          rw [ho]
          rfl
        · refine ifF (decide_eq_false (by rw [hol1]; omega)) ?_
          refine ⟨t2, [-1], rfl, rfl, k12, by decide, List.pairwise_singleton _ _, fun s hs => by rw [List.mem_singleton.mp hs]; decide, ?_⟩
          unfold dlO
          rw [List.getElem?_eq_none (by omega)]
          rfl
      rintro σ H13 ⟨sp, o, rfl, rfl, eo, hol60, hasc, hlow, hdlo⟩
      refine ⟨_, rfl, sp, rfl, ⟨_, sqt eo⟩, fun D hD => ?_⟩
      refine lc_tup (K := K) (a := sp) (xs := o.map V.int) (fun (i : Nat) (H' : Hp) => Same H13 H' ∧ H' D = some (.lst ((((o.take i).filter fun x => decide (0 ≤ x)).map fun a => a * (c : Int) + ((z % c : Nat) : Int)).map V.int))) ?_ ?_ ?_ ?_
      · exact ⟨same_new hD _, upd_same⟩
      · rintro i H' _ ⟨s14, _⟩
        exact sqt (s14 _ _ eo)
      · rintro i x H14 hx3 ⟨s14, k14⟩
        rw [List.getElem?_map] at hx3
        obtain ⟨a, ha, rfl⟩ := Option.map_eq_some_iff.mp hx3
        have hfs := filt_s (fun x => decide (0 ≤ x)) ha
        refine ⟨rfl, ?_⟩
        refine ⟨_, rfl, _, _, rfl, rfl, _, rfl, ?_⟩
        by_cases h1 : 0 ≤ a
        · rw [if_pos (decide_eq_true h1)] at hfs
          refine ifT (decide_eq_true h1) ?_
          refine ⟨_, rfl, _, rfl, 1, rfl, ?_⟩
          unfold tNoPart
          refine slA_of (s14 _ _ q12) fun qs H15 s15 k15 => ?_
          rw [cut_tl] at k15
          refine ⟨_, rfl, a, qs, rest, M, rfl, k15, by omega, ?_⟩
          refine ⟨_, s15 _ _ k14, big' (by rw [List.length_map, List.length_map]; have := List.length_filter_le (fun x => decide (0 ≤ x)) (o.take i); rw [List.length_take] at this; omega), same_put (s14.trans s15) hD, ?_⟩
          rw [upd_same, hfs, List.map_append, List.map_append, nmF_qu a hrest, hC]
          rfl
        · rw [if_neg (by rw [decide_eq_false h1]; exact Bool.false_ne_true), List.append_nil] at hfs
          refine ifF (decide_eq_false h1) ⟨s14, ?_⟩
          rw [k14, hfs]
      rintro H14 ⟨s14, k14⟩
      rw [List.length_map, List.take_length] at k14
      refine ⟨_, rfl, .inl ⟨rfl, _, sqd (s14 _ _ (s912 _ _ k9))⟩, ?_⟩
      refine ⟨_, rfl, sp, rfl, ⟨_, sqt (s14 _ _ eo)⟩, fun D2 hD2 => ?_⟩
      refine lc_tup (K := K) (a := sp) (xs := o.map V.int) (fun (i : Nat) (H' : Hp) => Same H14 H' ∧ H' D2 = some (.lst (((o.take i).filter fun x => decide (x < 0)).map V.int))) ?_ ?_ ?_ ?_
      · exact ⟨same_new hD2 _, upd_same⟩
      · rintro i H' _ ⟨s15, _⟩
        exact sqt ((s14.trans s15) _ _ eo)
      · rintro i x H15 hx3 ⟨s15, k15⟩
        rw [List.getElem?_map] at hx3
        obtain ⟨a, ha, rfl⟩ := Option.map_eq_some_iff.mp hx3
        have hfs := filt_s (fun x => decide (x < 0)) ha
        refine ⟨rfl, ?_⟩
        refine ⟨_, rfl, _, _, rfl, rfl, _, rfl, ?_⟩
        by_cases h1 : a < 0
        · rw [if_pos (decide_eq_true h1)] at hfs
          refine ifT (decide_eq_true h1) ?_
          refine ⟨_, rfl, _, k15, big' (by rw [List.length_map]; have := List.length_filter_le (fun x => decide (x < 0)) (o.take i); rw [List.length_take] at this; omega), same_put s15 hD2, ?_⟩
          rw [upd_same, hfs, List.map_append]
          rfl
        · rw [if_neg (by rw [decide_eq_false h1]; exact Bool.false_ne_true), List.append_nil] at hfs
          refine ifF (decide_eq_false h1) ⟨s15, ?_⟩
          rw [k15, hfs]
      rintro H15 ⟨s15, k15⟩
      rw [List.length_map, List.take_length] at k15
      have hf1 := List.length_filter_le (fun x => decide ((0 : Int) ≤ x)) o
      have hf2 := List.length_filter_le (fun x => decide (x < (0 : Int))) o
      refine ⟨_, rfl, D2, D, _, _, rfl, rfl, k15, s15 _ _ k14, big (by rw [List.length_map, List.length_map, List.length_map]; omega), fun cp hcp => ?_⟩
      obtain ⟨H16, E16, s16, k16⟩ := newH hcp (.lst ((o.filter fun x => decide (x < 0)).map V.int ++ ((o.filter fun x => decide (0 ≤ x)).map fun a => a * (c : Int) + ((z % c : Nat) : Int)).map V.int))
      rw [E16]
      rw [← List.map_append, flt_dl c (z % c) hasc hlow, ← hdlo] at k16
      refine ⟨cp, _, rfl, .inl ⟨sqd k16, fun t3 ht3 => ?_⟩⟩
      obtain ⟨H17, E17, s17, k17⟩ := newH ht3 (.tup ((dlO os c z).map V.int))
      rw [E17]
      have s917 := s912.trans (s14.trans (s15.trans (s16.trans s17)))
      have d17 := s917 _ _ k9
      have tt : Tp H17 (upd H17 ol (.lst (ts ++ [.ref t3]))) := tp_put Tp.refl d17
      refine ⟨ol, ts, _, rfl, rfl, d17, big' (by omega), ts ++ [.ref t3], _, _, _, _, _, rfl, same_put (s9.trans s917) hol, upd_same, ?_⟩
      rw [List.take_add_one, hdj]
      exact (hts.mono fun o x => OptIn.tp ((Tp.same s917).trans tt)).snoc ⟨t3, rfl, tt _ _ k17⟩
    · rintro σ H9 ⟨ts, y6, y9, y10, y11, y12, rfl, s9, k9, hts⟩
      rw [List.take_of_length_le (by rw [dlP_len]; omega)] at hts
      have d9 := s9 _ _ k7
      refine ⟨_, rfl, .inl ⟨rfl, _, sqd d9⟩, _, rfl, ol, ts, rfl, .inl ⟨sqd k9, fun t ht => ?_⟩⟩
      obtain ⟨H10, E10, s10, k10⟩ := newH ht (.tup ts)
      rw [E10]
      have s710 := s9.trans s10
      have d10 := s710 _ _ k7
      have tt : Tp H10 (upd H10 fl (.lst (ys ++ [.ref t]))) := tp_put Tp.refl d10
      refine ⟨fl, ys, _, rfl, rfl, d10, big' (by omega), ys ++ [.ref t], _, _, _, _, _, _, _, rfl, same_put (s7.trans s710) hfl, upd_same, ?_⟩
      rw [List.take_add_one, hdk]
      exact (hys.mono fun o x => PosIn.tp ((Tp.same s710).trans tt)).snoc ⟨t, ts, rfl, tt _ _ k10, hts.mono fun o x => OptIn.tp ((Tp.same s10).trans tt)⟩
  · rintro σ H7 ⟨ys, y3, y6, y8, y9, y10, y11, y12, rfl, s7, k7, hys⟩
    rw [List.take_of_length_le (by rw [hdl]; omega)] at hys
    refine ⟨_, rfl, fl, _, rfl, .inl ⟨sqd k7, fun ta hta => ?_⟩⟩
    obtain ⟨H8, E8, s8, k8⟩ := newH hta (.tup ys)
    rw [E8]
    have s58 := s7.trans s8
    refine ⟨_, rfl, pp, _, rfl, .inl ⟨sqd (s58 _ _ k5), fun tb htb => ?_⟩⟩
    obtain ⟨H9, E9, s9, k9⟩ := newH htb (.tup zs)
    rw [E9]
    refine ⟨Nat.le_of_ble_eq_true rfl, fun t ht => ?_⟩
    have s10 := same_new ht (.tup [V.ref ta, .ref tb])
    have s910 := s9.trans s10
    have s510 := s58.trans s910
    exact q t (.ref ta) tb zs _ (s5.trans s510) upd_same ⟨ta, ys, rfl, s910 _ _ k8, hys.mono fun o x => PosIn.tp (Tp.same (s8.trans s910))⟩ (s10 _ _ k9) (hzs.mono fun o x => PairIn.tp (Tp.same s510))
end
end NL

set_option maxHeartbeats 4000000
namespace NL
open PySem PySem.Spec PyProof.Rows L2
theorem alk_each {α : Type} {R : α → V → Prop} {H : Hp} {n : Nat} {l : List α} {xs ys : List V} (f : ∀ a ∈ l, ∀ u v, R a u → R a v → Alk n H u v) (hx : Each R l xs) (hy : Each R l ys) : ∀ (k : Nat) x y, xs[k]? = some x → ys[k]? = some y → Alk n H x y := by
  intro k x y h1 h2
  have hl := (List.getElem?_eq_some_iff.mp h1).1
  have ha := List.getElem?_eq_getElem (show k < l.length by have := hx.1; omega)
  exact f _ (List.mem_of_getElem? ha) x y (hx.2 k _ x ha h1) (hy.2 k _ y ha h2)
theorem alk_opt {H : Hp} {o : Opt} {u v : V} (hl : o.length ≤ 1000) (hu : OptIn H o u) (hv : OptIn H o v) : Alk 2 H u v := by
  obtain ⟨a, rfl, ea⟩ := hu
  obtain ⟨b, rfl, eb⟩ := hv
  exact Alk.ints ea eb (by omega)
theorem alk_pos {H : Hp} {os : Pos'} {u v : V} (hl : os.length ≤ 1000) (ho : ∀ o ∈ os, o.length ≤ 1000) (hu : PosIn H os u) (hv : PosIn H os v) : Alk 3 H u v := by
  obtain ⟨a, xs, rfl, ea, hx⟩ := hu
  obtain ⟨b, ys, rfl, eb, hy⟩ := hv
  exact .inr (.inr (.inr ⟨a, b, xs, ys, rfl, rfl, ea, eb, by rw [hx.1, hy.1], by rw [hy.1]; omega, alk_each (R := OptIn H) (fun o h u v hu hv => alk_opt (ho o h) hu hv) hx hy⟩))
theorem alk_ar {H : Hp} {A : Ar} {u v : V} (hG : ArG A) (hu : ArIn H A u) (hv : ArIn H A v) : Alk 4 H u v := by
  obtain ⟨a, xs, rfl, ea, hx⟩ := hu
  obtain ⟨b, ys, rfl, eb, hy⟩ := hv
  have h4 := hG.1
  exact .inr (.inr (.inr ⟨a, b, xs, ys, rfl, rfl, ea, eb, by rw [hx.1, hy.1], by rw [hy.1]; omega, alk_each (R := PosIn H) (fun os h u v hu hv => alk_pos (Nat.le_trans (hG.2 os h).1 (by decide)) (fun o ho => Nat.le_trans ((hG.2 os h).2 o ho).len (by decide)) hu hv) hx hy⟩))
theorem alk_pair {H : Hp} {x : Nat × List Int} {u v : V} (hl : x.2.length ≤ 1000) (hu : PairIn H x u) (hv : PairIn H x v) : Alk 3 H u v := by
  obtain ⟨a, qa, rfl, ea, ga⟩ := hu
  obtain ⟨b, qb, rfl, eb, gb⟩ := hv
  refine .inr (.inr (.inr ⟨a, b, _, _, rfl, rfl, ea, eb, rfl, Nat.le_of_ble_eq_true rfl, fun k y z hy hz => ?_⟩))
  rcases k with _ | _ | k
  · cases hy
    cases hz
    exact .inr (.inr (.inl ⟨_, rfl, rfl⟩))
  · cases hy
    cases hz
    exact Alk.ints ga gb (by omega)
  · cases hy
theorem Alk.up : ∀ {n : Nat} {H : Hp} {u v : V}, Alk n H u v → Alk (n + 1) H u v
  | 0, _, _, _, h => h.elim
  | n + 1, H, u, v, h => by
    rcases h with h | h | h | ⟨a, b, xs, ys, h1, h2, h3, h4, h5, h6, h7⟩
    · exact .inl h
    · exact .inr (.inl h)
    · exact .inr (.inr (.inl h))
    · exact .inr (.inr (.inr ⟨a, b, xs, ys, h1, h2, h3, h4, h5, h6, fun k x y hx hy => (h7 k x y hx hy).up⟩))
theorem prF_lens {n m d : Nat} {x : Nat × List Int} (h : x ∈ prF n m d) : x.2.length = d := by
  obtain ⟨k, hk⟩ := List.getElem?_of_mem h
  have hkl := (List.getElem?_eq_some_iff.mp hk).1
  rw [prF_len] at hkl
  obtain ⟨q, h1, h2, _⟩ := prF_at hkl
  rw [hk] at h1
  rw [Option.some.inj h1]
  exact (quF_lenq (List.mem_of_getElem? h2)).1
theorem alk_prs {H : Hp} {n m d : Nat} {a b : Addr} {xs ys : List V} (hl : n * m ^ d ≤ 1000) (hd : d ≤ 1000) (ea : H a = some (.tup xs)) (eb : H b = some (.tup ys)) (hx : Each (PairIn H) (prF n m d) xs) (hy : Each (PairIn H) (prF n m d) ys) : Alk 4 H (.ref a) (.ref b) :=
  .inr (.inr (.inr ⟨a, b, xs, ys, rfl, rfl, ea, eb, by rw [hx.1, hy.1], by rw [hy.1, prF_len]; omega, alk_each (R := PairIn H) (fun x h u v hu hv => alk_pair (by rw [prF_lens h]; exact hd) hu hv) hx hy⟩))
theorem alk_two {H : Hp} {n : Nat} {p q : Addr} {a b c d : V} (hp : H p = some (.tup [a, c])) (hq : H q = some (.tup [b, d])) (h1 : Alk n H a b) (h2 : Alk n H c d) : Alk (n + 1) H (.ref p) (.ref q) := by
  refine .inr (.inr (.inr ⟨p, q, _, _, rfl, rfl, hp, hq, rfl, Nat.le_of_ble_eq_true rfl, fun k x y hx hy => ?_⟩))
  rcases k with _ | _ | k
  · cases hx
    cases hy
    exact h1
  · cases hx
    cases hy
    exact h2
  · cases hx
theorem DlG.good {A : Ar} {d : Nat} (h : DlG A d) : ArG (dlA A d) := dlA_good h.all h.m h.opt
theorem dlg_of {A : Ar} {d : Nat} (n B : Nat) (hl : A.length ≤ n) (hn : n ≤ 50) (hd : d ≤ 100) (hB : B ≤ 12) (hc : B ^ d ≤ 400) (ha : n * B ^ d ≤ 400) (ho : ∀ os ∈ A, os.length ≤ B ∧ ∀ o ∈ os, OptG A.length o) : DlG A d := by
  have hm : mst A ≤ B := mst_ub fun os h => (ho os h).1
  have hp : mst A ^ d ≤ B ^ d := Nat.pow_le_pow_left hm d
  exact ⟨by omega, hd, by omega, by omega, Nat.le_trans (Nat.mul_le_mul hl hp) ha, fun os h => (ho os h).2⟩
section
variable {P : Program} {w : World} {K : PySem.W.Frag} {mg : Str → Option Value} {base : Heap}
def spIsD : Sp := fun vs H Q _ => ∃ (v : V) (A : Ar) (d : Nat), vs = [v, .int (d : Nat)] ∧ ArIn H A v ∧ DlG A d ∧ ∀ H', Same H H' → Q (.bl true) H'
theorem ok_law_is_delayed (T : Txt K mg) : FnOk P w K mg base CX0 7 T.a_law_is_delayed T.d_law_is_delayed P_law_is_delayed spIsD := by
  have G_law_delayed := ok_law_delayed (P := P) (w := w) (base := base) T
  have G_law_same := ok_law_same (P := P) (w := w) (base := base) T 5
  have Gdelayed_arena := ok_delayed_arena (P := P) (w := w) (base := base) T
  have Gcheck_arena := ok_check_arena (P := P) (w := w) (base := base) T
  refine T.F_law_is_delayed.ok sc_law_is_delayed (fun vs H Q E h => ?_) (fun cdv A outer s H vs Q E hr h => ?_)
  · obtain ⟨v, A, d, rfl, _⟩ := h
    rfl
  obtain ⟨v, A0, d, rfl, hA, hG, q⟩ := h
  refine ⟨_, (pss_cons (ps_set (i := 2) sc_law_is_delayed.nd rfl (Or.inl rfl) (pe_call Gdelayed_arena (hr.mono (by omega)) (by rfl) T.mdelayed_arena T.Fdelayed_arena.kp T.bdelayed_arena .nil pass0 (pa_cons (pv 0) (pa_cons (pv 1) pa_nil))))
    (pss_one (ps_ret (pe_and (pe_call G_law_same (hr.mono (by omega)) (by rfl) T.m_law_same T.F_law_same.kp T.b_law_same .nil pass0 (pa_cons (pv 2) (pa_cons (pe_call G_law_delayed (hr.mono (by omega)) (by rfl) T.m_law_delayed T.F_law_delayed.kp T.b_law_delayed .nil pass0 (pa_cons (pv 0) (pa_cons (pv 1) pa_nil))) pa_nil))) (pe_one (pe_cmpR op_isN (pe_call Gcheck_arena (hr.mono (by omega)) (by rfl) T.mcheck_arena T.Fcheck_arena.kp T.bcheck_arena .nil pass0 (pa_cons (pe_ix ix_tup (pv 2) pe_int (fun _ _ => rfl)) pa_nil)) pe_non (nomark _))))))), ?_⟩
  have hg := hG.good
  have hall := hG.all
  have hdd := hG.dd
  refine ⟨_, rfl, _, rfl, v, A0, d, rfl, hA, hG, fun p a b zs H1 s1 k1 ha kb hzs => ?_⟩
  refine ⟨_, rfl, _, rfl, _, rfl, v, A0, d, rfl, hA.tp (Tp.same s1), hG, fun p2 a2 b2 zs2 H2 s2 k2 ha2 kb2 hzs2 => ?_⟩
  refine ⟨_, _, rfl, alk_two (s2 _ _ k1) k2 (alk_ar hg (ha.tp (Tp.same s2)) ha2) (alk_prs (by omega) (by omega) (s2 _ _ kb) kb2 (hzs.mono fun x y => PairIn.tp (Tp.same s2)) hzs2), true, rfl, ?_⟩
  refine iteT ⟨_, rfl, p, _, _, _, rfl, rfl, sqt (s2 _ _ k1), atI0, a, _, rfl, ha.tp (Tp.same s2), hg, fun H3 s3 => ?_⟩
  exact ⟨rfl, boolE (decide_eq_true rfl) (q H3 (s1.trans (s2.trans s3)))⟩
end
end NL

set_option maxHeartbeats 4000000
namespace NL
open PySem PySem.Spec PyProof.Rows L2
/-- a list of options that are made one after another -/
def Lo (N : Int) (R : Addr) (j : Nat) (H : Hp) : Prop := ∃ (os : List Opt) (zs : List V), H R = some (.lst zs) ∧ Each (OptIn H) os zs ∧ os.length = j ∧ ∀ o ∈ os, OptG N o
theorem Lo.same {N : Int} {R : Addr} {j : Nat} {H H' : Hp} (h : Lo N R j H) (s : Same H H') : Lo N R j H' := by
  obtain ⟨os, zs, h1, h2, h3, h4⟩ := h
  exact ⟨os, zs, s _ _ h1, h2.mono fun o x => OptIn.tp (Tp.same s), h3, h4⟩
theorem Lo.snoc {N : Int} {R : Addr} {j : Nat} {H H' : Hp} {o : Opt} {t : Addr} (h : Lo N R j H) (s : Same H H') (ht : H' t = some (.tup (o.map V.int))) (ho : OptG N o) : ∃ acc, H' R = some (.lst acc) ∧ acc.length = j ∧ Lo N R (j + 1) (upd H' R (.lst (acc ++ [.ref t]))) := by
  obtain ⟨os, zs, h1, h2, h3, h4⟩ := h
  have d := s _ _ h1
  have tt : Tp H' (upd H' R (.lst (zs ++ [.ref t]))) := tp_put Tp.refl d
  refine ⟨zs, d, by rw [h2.1, h3], os ++ [o], zs ++ [.ref t], upd_same, (h2.mono fun o x => OptIn.tp ((Tp.same s).trans tt)).snoc ⟨t, rfl, tt _ _ ht⟩, by rw [List.length_append, h3]; rfl, fun o' ho' => ?_⟩
  rcases List.mem_append.mp ho' with ho' | ho'
  · exact h4 o' ho'
  · rw [List.mem_singleton.mp ho']
    exact ho
theorem Lo.at {N : Int} {R : Addr} {j k : Nat} {H : Hp} (h : Lo N R j H) (hk : k < j) : ∃ zs x o, H R = some (.lst zs) ∧ zs[k]? = some x ∧ OptIn H o x ∧ OptG N o := by
  obtain ⟨os, zs, h1, h2, h3, h4⟩ := h
  have ho := List.getElem?_eq_getElem (show k < os.length by omega)
  obtain ⟨x, hx, hi⟩ := h2.at ho
  exact ⟨zs, x, _, h1, hx, hi, h4 _ (List.mem_of_getElem? ho)⟩
def upO (N : Int) : Opt := (List.range (N + 1).toNat).map fun i : Nat => -1 + (i : Int)
theorem upO_rg (N : Int) : rgV (-1) N = (upO N).map V.int := by
  unfold rgV upO
  rw [List.map_map, show (N - -1).toNat = (N + 1).toNat by omega]
  rfl
theorem upO_good {N : Int} (h0 : 0 ≤ N) (h1 : N ≤ 13) : OptG N (upO N) := by
  unfold upO
  refine ⟨fun e => ?_, ?_, fun s hs => ?_, ?_⟩
  · have := congrArg List.length e
    rw [List.length_map, List.length_range] at this
    have h2 : (N + 1).toNat = 0 := this
    omega
  · rw [List.length_map, List.length_range]
    omega
  · obtain ⟨i, hi, rfl⟩ := List.mem_map.mp hs
    have := List.mem_range.mp hi
    omega
  · exact List.pairwise_map.mpr (List.pairwise_lt_range.imp fun {a b} h => by omega)
theorem two_good {n a b : Int} (h0 : -1 ≤ a) (h1 : a < b) (h2 : b < n) : OptG n [a, b] := by
  refine ⟨by simp, by simp, fun s hs => ?_, ?_⟩
  · simp only [List.mem_cons, List.not_mem_nil, or_false] at hs
    rcases hs with rfl | rfl <;> omega
  · refine List.pairwise_cons.mpr ⟨fun x hx => ?_, List.pairwise_singleton _ _⟩
    rw [List.mem_singleton.mp hx]
    exact h1
/-- the positions of an arena, one after another -/
def La (N : Int) (R : Addr) (j : Nat) (H : Hp) : Prop := ∃ (A : Ar) (zs : List V), H R = some (.lst zs) ∧ Each (PosIn H) A zs ∧ A.length = j ∧ ∀ os ∈ A, os.length ≤ 3 ∧ ∀ o ∈ os, OptG N o
theorem La.snoc {N : Int} {R : Addr} {j : Nat} {H H' : Hp} {os : Pos'} {x : V} (h : La N R j H) (s : Same H H') (ht : PosIn H' os x) (ho : os.length ≤ 3 ∧ ∀ o ∈ os, OptG N o) : ∃ acc, H' R = some (.lst acc) ∧ acc.length = j ∧ La N R (j + 1) (upd H' R (.lst (acc ++ [x]))) := by
  obtain ⟨A, zs, h1, h2, h3, h4⟩ := h
  have d := s _ _ h1
  have tt : Tp H' (upd H' R (.lst (zs ++ [x]))) := tp_put Tp.refl d
  refine ⟨zs, d, by rw [h2.1, h3], A ++ [os], zs ++ [x], upd_same, (h2.mono fun o x => PosIn.tp ((Tp.same s).trans tt)).snoc (ht.tp tt), by rw [List.length_append, h3]; rfl, fun o' ho' => ?_⟩
  rcases List.mem_append.mp ho' with ho' | ho'
  · exact h4 o' ho'
  · rw [List.mem_singleton.mp ho']
    exact ho
section
variable {P : Program} {w : World} {K : PySem.W.Frag} {mg : Str → Option Value} {base : Heap}
def spLarger : Sp := fun vs H Q _ => ∃ d : Addr, vs = [.ref d] ∧ Dr H d ∧ ∀ H', Go d H H' → Q (.bl true) H'
theorem ok_law_are_larger (T : Txt K mg) : FnOk P w K mg base CX0 8 T.a_law_are_larger T.d_law_are_larger P_law_are_larger spLarger := by
  have G_law_take := ok_law_take (P := P) (w := w) (base := base) T
  have G_law_is_delayed := ok_law_is_delayed (P := P) (w := w) (base := base) T
  refine T.F_law_are_larger.ok sc_law_are_larger (fun vs H Q E h => ?_) (fun cdv A outer s H vs Q E hr h => ?_)
  · obtain ⟨d, rfl, _⟩ := h
    rfl
  obtain ⟨d, rfl, hD, q⟩ := h
  refine ⟨_, (pss_cons (ps_set (i := 1) sc_law_are_larger.nd rfl (Or.inr rfl) (pe_op op_add pe_int (pe_call G_law_take (hr.mono (by omega)) (by rfl) T.m_law_take T.F_law_take.kp T.b_law_take .nil pass0 (pa_cons (pv 0) (pa_cons pe_int pa_nil)))))
    (pss_cons (ps_set (i := 2) sc_law_are_larger.nd rfl (Or.inr rfl) (pe_call G_law_take (hr.mono (by omega)) (by rfl) T.m_law_take T.F_law_take.kp T.b_law_take .nil pass0 (pa_cons (pv 0) (pa_cons pe_int pa_nil))))
    (pss_cons (ps_set (i := 3) sc_law_are_larger.nd rfl (Or.inr rfl) (pe_lc (own := [("k", 4)]) (g := (gName 4)) (tt := tYes) rfl sc_law_are_larger.nd (pi_range1 (by rfl) T.z_range (pa_cons (pv 1) pa_nil)) (blkOk_by (N := N_law_are_larger) (sc := defScope s_law_are_larger) (by decide +kernel)) (fun _ _ _ _ _ => (pg_name (i := 4) sc_law_are_larger.nd rfl (Or.inl rfl))) (fun _ _ _ _ _ => pts_nil) (fun _ _ _ _ _ => (pe_tup (pa_cons (pe_op op_mod (pe_callTy call_int1 (by rfl) T.z_int (by decide +kernel) (pa_cons (pe_op op_add (pv 4) pe_int) pa_nil)) (pv 1)) pa_nil)))))
    (pss_cons (ps_set (i := 5) sc_law_are_larger.nd rfl (Or.inr rfl) (pe_lc (own := [("k", 4)]) (g := (gName 4)) (tt := tYes) rfl sc_law_are_larger.nd (pi_range1 (by rfl) T.z_range (pa_cons (pv 1) pa_nil)) (blkOk_by (N := N_law_are_larger) (sc := defScope s_law_are_larger) (by decide +kernel)) (fun _ _ _ _ _ => (pg_name (i := 4) sc_law_are_larger.nd rfl (Or.inl rfl))) (fun _ _ _ _ _ => pts_nil) (fun _ _ _ _ _ => (pe_callTy (call_tuple_ofK (K := K) rfl) (by rfl) T.z_tuple (by decide +kernel) (pa_cons (pe_callB (cr_sortedSetK (w := w) rfl rfl) (by rfl) T.z_sorted (by decide +kernel) (pa_cons (pe_callTy (cr_setOfIK (K := K) (w := w) rfl rfl rfl) (by rfl) T.z_set (by decide +kernel) (pa_cons (pe_lst (pa_cons (pe_op op_mod (pe_callTy call_int1 (by rfl) T.z_int (by decide +kernel) (pa_cons (pe_op op_mul (pv 4) (pv 2)) pa_nil)) (pv 1)) (pa_cons (pe_op op_mod (pe_callTy call_int1 (by rfl) T.z_int (by decide +kernel) (pa_cons (pe_op op_add (pv 4) (pv 2)) pa_nil)) (pv 1)) pa_nil))) pa_nil)) pa_nil)) pa_nil)))))
    (pss_cons (ps_set (i := 6) sc_law_are_larger.nd rfl (Or.inr rfl) (pe_tupRg rfl (by rfl) T.z_tuple (prg_2 (by rfl) T.z_range (pe_un un_neg pe_int) (pv 1))))
    (pss_cons (ps_set (i := 7) sc_law_are_larger.nd rfl (Or.inl rfl) (pe_callTy call_tuple_of (by rfl) T.z_tuple (by decide +kernel) (pa_cons (pe_lc (own := [("k", 4)]) (g := (gName 4)) (tt := tYes) rfl sc_law_are_larger.nd (pi_range1 (by rfl) T.z_range (pa_cons (pv 1) pa_nil)) (blkOk_by (N := N_law_are_larger) (sc := defScope s_law_are_larger) (by decide +kernel)) (fun _ _ _ _ _ => (pg_name (i := 4) sc_law_are_larger.nd rfl (Or.inl rfl))) (fun _ _ _ _ _ => pts_nil) (fun _ _ _ _ _ => (pe_slice (sl_tupAK (K := K) rfl) (pe_tup (pa_cons (pe_ix (ix_listK (K := K) rfl) (pv 3) (pv 4) (fun _ _ => rfl)) (pa_cons (pe_ix (ix_listK (K := K) rfl) (pv 5) (pv 4) (fun _ _ => rfl)) (pa_cons (pe_ix (ix_listK (K := K) rfl) (pe_lst (pa_cons (pe_tup (pa_cons (pe_un un_neg pe_int) (pa_cons (pv 4) pa_nil))) (pa_cons (pv 6) pa_nil))) (pe_op op_mod (pe_callTy call_int1 (by rfl) T.z_int (by decide +kernel) (pa_cons (pv 4) pa_nil)) pe_int) (fun _ _ => rfl)) pa_nil)))) po_none (po_some (pe_op op_add pe_int (pe_op op_mod (pe_callTy call_int1 (by rfl) T.z_int (by decide +kernel) (pa_cons (pe_op op_add (pv 4) (pv 2)) pa_nil)) pe_int)))))) pa_nil)))
    (pss_cons (ps_set (i := 8) sc_law_are_larger.nd rfl (Or.inl rfl) (pe_tup (pa_cons (pe_callTy call_tuple_of (by rfl) T.z_tuple (by decide +kernel) (pa_cons (pe_lc (own := [("k", 4)]) (g := (gName 4)) (tt := tYes) rfl sc_law_are_larger.nd (pi_range1 (by rfl) T.z_range (pa_cons pe_int pa_nil)) (blkOk_by (N := N_law_are_larger) (sc := defScope s_law_are_larger) (by decide +kernel)) (fun _ _ _ _ _ => (pg_name (i := 4) sc_law_are_larger.nd rfl (Or.inl rfl))) (fun _ _ _ _ _ => pts_nil) (fun _ _ _ _ _ => (pe_tup (pa_cons (pe_op op_mod (pe_callTy call_int1 (by rfl) T.z_int (by decide +kernel) (pa_cons (pe_op op_add (pv 2) (pv 4)) pa_nil)) pe_int) pa_nil)))) pa_nil)) (pa_cons (pe_tup (pa_cons (pe_tup (pa_cons (pe_un un_neg pe_int) (pa_cons pe_int (pa_cons pe_int (pa_cons pe_int pa_nil))))) (pa_cons (pe_tup (pa_cons pe_int (pa_cons pe_int pa_nil))) pa_nil))) (pa_cons (pe_tup pa_nil) pa_nil)))))
    (pss_cons (ps_set (i := 9) sc_law_are_larger.nd rfl (Or.inl rfl) (pe_slice sl_tupA (pe_tup (pa_cons (pe_tup (pa_cons (pe_tup (pa_cons pe_int (pa_cons pe_int pa_nil))) (pa_cons (pe_tup (pa_cons pe_int pa_nil)) pa_nil))) (pa_cons (pe_tup (pa_cons (pe_tup (pa_cons (pe_un un_neg pe_int) (pa_cons pe_int pa_nil))) (pa_cons (pe_tup (pa_cons pe_int pa_nil)) pa_nil))) (pa_cons (pe_tup (pa_cons (pe_tup (pa_cons pe_int (pa_cons pe_int pa_nil))) (pa_cons (pe_tup (pa_cons pe_int pa_nil)) pa_nil))) pa_nil)))) po_none (po_some (pe_op op_add pe_int (pe_op op_mod (pe_callTy call_int1 (by rfl) T.z_int (by decide +kernel) (pa_cons (pv 2) pa_nil)) pe_int)))))
    (pss_cons (ps_if (PW.pt (pw_or (pt_not (pt_val (pe_call G_law_is_delayed (hr.mono (by omega)) (by rfl) T.m_law_is_delayed T.F_law_is_delayed.kp T.b_law_is_delayed .nil pass0 (pa_cons (pv 7) (pa_cons pe_int pa_nil))))) (pw_or (pt_not (pt_val (pe_call G_law_is_delayed (hr.mono (by omega)) (by rfl) T.m_law_is_delayed T.F_law_is_delayed.kp T.b_law_is_delayed .nil pass0 (pa_cons (pv 7) (pa_cons pe_int pa_nil))))) (pw_or1 (pt_not (pt_val (pe_call G_law_is_delayed (hr.mono (by omega)) (by rfl) T.m_law_is_delayed T.F_law_is_delayed.kp T.b_law_is_delayed .nil pass0 (pa_cons (pv 8) (pa_cons pe_int pa_nil)))))))))
    (pss_one (ps_ret pe_bl))
    pss_nil)
    (pss_one (ps_ret (pe_and (pe_call G_law_is_delayed (hr.mono (by omega)) (by rfl) T.m_law_is_delayed T.F_law_is_delayed.kp T.b_law_is_delayed .nil pass0 (pa_cons (pv 9) (pa_cons (pe_op op_add pe_int (pe_op op_mod (pe_callTy call_int1 (by rfl) T.z_int (by decide +kernel) (pa_cons (pe_op op_fdiv (pv 2) pe_int) pa_nil)) pe_int)) pa_nil))) (pe_one (pe_call G_law_is_delayed (hr.mono (by omega)) (by rfl) T.m_law_is_delayed T.F_law_is_delayed.kp T.b_law_is_delayed .nil pass0 (pa_cons (pe_tup (pa_cons (pe_tup (pa_cons (pe_tup (pa_cons pe_int pa_nil)) pa_nil)) (pa_cons (pe_tup (pa_cons (pe_tup (pa_cons pe_int pa_nil)) pa_nil)) (pa_cons (pe_tup pa_nil) pa_nil)))) (pa_cons (pe_op op_add pe_int (pe_op op_mod (pe_callTy call_int1 (by rfl) T.z_int (by decide +kernel) (pa_cons (pv 2) pa_nil)) pe_int)) pa_nil)))))))))))))))), ?_⟩
  refine ⟨_, rfl, d, 3, rfl, hD, by decide, fun u1 H1 g1 a1 b1 => ⟨_, _, rfl, rfl, ?_⟩⟩
  dsimp only
  generalize hN : (11 : Int) + u1 = N
  have hN1 : 11 ≤ N ∧ N ≤ 13 := by omega
  have hN0 : 0 < N := by omega
  clear hN
  refine ⟨_, rfl, d, 60, rfl, g1.dr, by decide, fun F H2 g2 a2 b2 => ?_⟩
  have g12 := g1.trans g2
  have md : ∀ z : Int, 0 ≤ z % N ∧ z % N < N := fun z => ⟨Int.emod_nonneg z (by omega), Int.emod_lt_of_pos z hN0⟩
  have o1 : ∀ z : Int, OptG N [z % N] := fun z => .one (by have := md z; omega) (md z).2
  -- ring
  refine ⟨_, rfl, N, rfl, by omega, by omega, fun R hR => ?_⟩
  refine lc_range (lo := 0) (n := N.toNat) (fun (j : Nat) (H' : Hp) => Same H2 H' ∧ Lo N R j H') ?_ ?_ ?_
  · exact ⟨same_new hR _, [], [], upd_same, .nil, rfl, fun o h => nomatch h⟩
  · rintro j H3 hj ⟨s3, hL⟩
    generalize hk : (0 : Int) + (j : Int) = k
    refine ⟨rfl, yes_if ?_⟩
    refine ⟨_, rfl, _, _, rfl, rfl, .inl ⟨_, rfl, _, rfl, _, _, rfl, rfl, hN0, Nat.le_of_ble_eq_true rfl, fun t1 ht1 => ?_⟩⟩
    obtain ⟨H4, E4, s4, k4⟩ := newH ht1 (.tup [V.int ((k + 1) % N)])
    rw [show upd H3 t1 (.tup [V.int ((k + 1) % N)]) = H4 from E4]
    obtain ⟨acc, k5, hl, hL5⟩ := hL.snoc s4 (o := [(k + 1) % N]) k4 (o1 _)
    exact ⟨acc, k5, big' (by omega), same_put (s3.trans s4) hR, hL5⟩
  rintro H3 ⟨s3, hL3⟩
  -- more
  refine ⟨_, rfl, N, rfl, by omega, by omega, fun R2 hR2 => ?_⟩
  refine lc_range (lo := 0) (n := N.toNat) (fun (j : Nat) (H' : Hp) => Same H3 H' ∧ Lo N R2 j H') ?_ ?_ ?_
  · exact ⟨same_new hR2 _, [], [], upd_same, .nil, rfl, fun o h => nomatch h⟩
  · rintro j H4 hj ⟨s4, hL⟩
    generalize hk : (0 : Int) + (j : Int) = k
    have hk0 : 0 ≤ k ∧ k < N := by omega
    refine ⟨rfl, yes_if ?_⟩
    refine ⟨_, rfl, _, rfl, _, _, rfl, rfl, .inl ⟨by omega, by omega⟩, .inl ⟨_, rfl, _, rfl, _, _, rfl, rfl, hN0, ?_⟩⟩
    refine ⟨_, rfl, _, rfl, _, _, rfl, rfl, .inl ⟨_, rfl, _, rfl, _, _, rfl, rfl, hN0, ?_⟩⟩
    dsimp only
    have hb1 := md (k * F)
    have hb2 := md (k + F)
    generalize (k * F) % N = x1 at hb1 ⊢
    generalize (k + F) % N = x2 at hb2 ⊢
    refine ⟨Nat.le_of_ble_eq_true rfl, fun l1 hl1 => ⟨l1, [x1, x2], rfl, sqd upd_same, (by show 2 < 64; decide), fun s0 c1 hs0 hc1 => ?_⟩⟩
    have s2 := (same_new hl1 (.lst [V.int x1, V.int x2])).trans (same_new hs0 (SetO w s0 (fun j => decide (j ∈ [x1, x2])) c1))
    refine ⟨s0, _, c1, rfl, upd_same, Nat.lt_of_le_of_lt hc1 (by show 2 < 64; decide), fun ns q1 hasc hmem hlen hq1 => ?_⟩
    refine ⟨q1, _, rfl, .inl ⟨sqd upd_same, fun t2 ht2 => ?_⟩⟩
    obtain ⟨Ha, ea, sa, _⟩ := newH hq1 (.lst (ns.map V.int))
    rw [ea] at ht2 ⊢
    obtain ⟨Hb, eb, sb, kb⟩ := newH ht2 (.tup (ns.map V.int))
    rw [eb]
    have s4b := (s2.trans sa).trans sb
    have oN : OptG N ns := by
      have hmm : ∀ s ∈ ns, s = x1 ∨ s = x2 := fun s hs => by
        have := (hmem s).mp hs
        simpa using this
      refine ⟨fun e => ?_, by rw [hlen]; exact Nat.le_trans hc1 (by show 2 ≤ 60; decide), fun s hs => ?_, hasc⟩
      · have := (hmem x1).mpr (by simp)
        rw [e] at this
        cases this
      · rcases hmm s hs with rfl | rfl <;> omega
    obtain ⟨acc, k5, hl, hL5⟩ := hL.snoc s4b (o := ns) kb oN
    exact ⟨acc, k5, big' (by omega), same_put (s4.trans s4b) hR2, hL5⟩
  rintro H4 ⟨s4, hL4⟩
  -- whole
  refine ⟨_, rfl, _, rfl, -1, N, rfl, rfl, ⟨by omega, by omega, by omega, by omega, by omega⟩, fun wp hwp => ?_⟩
  rw [upO_rg]
  obtain ⟨H5, E5, s5, k5⟩ := newH hwp (.tup ((upO N).map V.int))
  rw [E5]
  have hR5 := hL3.same (s4.trans s5)
  have hM5 := hL4.same s5
  -- the arena
  refine ⟨_, rfl, N, rfl, by omega, by omega, fun RA hRA => ?_⟩
  refine lc_range (lo := 0) (n := N.toNat) (fun (j : Nat) (H' : Hp) => Same H5 H' ∧ La N RA j H') ?_ ?_ ?_
  · exact ⟨same_new hRA _, [], [], upd_same, .nil, rfl, fun o h => nomatch h⟩
  · rintro j H6 hj ⟨s6, hL⟩
    obtain ⟨z1, x1, p1, e1, h1, i1, g1'⟩ := (hR5.same s6).at (show j < N.toNat by omega)
    obtain ⟨z2, x2, p2, e2, h2, i2, g2'⟩ := (hM5.same s6).at (show j < N.toNat by omega)
    generalize hk : (0 : Int) + (j : Int) = k
    have hkj : k = (j : Int) := by omega
    clear hk
    subst hkj
    refine ⟨rfl, yes_if ?_⟩
    refine ⟨_, rfl, _, rfl, R, _, _, _, rfl, rfl, sqd e1, atI_nat h1, _, rfl, _, rfl, R2, _, _, _, rfl, rfl, sqd e2, atI_nat h2, ?_⟩
    refine ⟨_, rfl, _, rfl, Nat.le_of_ble_eq_true rfl, fun ta hta => ?_⟩
    obtain ⟨H7, E7, s7, k7⟩ := newH hta (.tup [V.int (-1), V.int (j : Int)])
    rw [show upd H6 ta (.tup [V.int (-1), V.int (j : Int)]) = H7 from E7]
    refine ⟨_, rfl, Nat.le_of_ble_eq_true rfl, fun la hla => ?_⟩
    obtain ⟨H8, E8, s8, k8⟩ := newH hla (.lst [V.ref ta, V.ref wp])
    rw [E8]
    have hx3 : ∃ x3 p3, atI [V.ref ta, V.ref wp] ((j : Int) % 2) = some x3 ∧ OptIn H8 p3 x3 ∧ OptG N p3 := by
      have h2 : (j : Int) % 2 = 0 ∨ (j : Int) % 2 = 1 := by omega
      rcases h2 with h | h
      · rw [h]
        exact ⟨_, [-1, (j : Int)], atI0, ⟨ta, rfl, s8 _ _ k7⟩, two_good (by omega) (by omega) (by omega)⟩
      · rw [h]
        exact ⟨_, upO N, atI1, ⟨wp, rfl, s8 _ _ (s7 _ _ (s6 _ _ k5))⟩, upO_good (by omega) (by omega)⟩
    obtain ⟨x3, p3, h3, i3, g3'⟩ := hx3
    refine ⟨_, rfl, .inl ⟨_, rfl, _, _, rfl, rfl, (show (0 : Int) < 2 by decide), la, _, _, _, rfl, rfl, sqd k8, h3, ?_⟩⟩
    refine ⟨Nat.le_of_ble_eq_true rfl, fun tt htt => ?_⟩
    obtain ⟨H9, E9, s9, k9⟩ := newH htt (.tup [x1, x2, x3])
    rw [E9]
    obtain ⟨h, hh, hh3⟩ : ∃ h : Nat, (1 : Int) + ((j : Int) + F) % 3 = (h : Int) ∧ h ≤ 3 := ⟨((1 : Int) + ((j : Int) + F) % 3).toNat, by omega, by omega⟩
    refine ⟨_, rfl, _, rfl, _, _, rfl, rfl, .inl ⟨_, rfl, _, _, rfl, rfl, (show (0 : Int) < 3 by decide), _, _, rfl, rfl, _, rfl, ?_⟩⟩
    dsimp only
    rw [hh]
    refine slA_of k9 fun pp H10 s10 k10 => ?_
    rw [cut_pre] at k10
    have s610 := s7.trans (s8.trans (s9.trans s10))
    have t810 := Tp.same (s9.trans s10)
    obtain ⟨acc, k11, hl, hL11⟩ := hL.snoc s610 (os := [p1, p2, p3].take h) (x := .ref pp) ⟨pp, _, rfl, k10, (Each.cons (i1.tp (Tp.same s610)) (.cons (i2.tp (Tp.same s610)) (.cons (i3.tp t810) .nil))).take h⟩ ⟨by rw [List.length_take]; exact Nat.le_trans (Nat.min_le_left _ _) hh3, fun o ho => by
      have := List.mem_of_mem_take ho
      simp only [List.mem_cons, List.not_mem_nil, or_false] at this
      rcases this with rfl | rfl | rfl
      · exact g1'
      · exact g2'
      · exact g3'⟩
    exact ⟨acc, k11, big' (by omega), same_put (s6.trans s610) hRA, hL11⟩
  rintro H6 ⟨s6, AR, zA, kA, hzA, hAl, hAo⟩
  refine ⟨RA, zA, rfl, .inl ⟨sqd kA, fun ta hta => ?_⟩⟩
  obtain ⟨H7, E7, s7, k7⟩ := newH hta (.tup zA)
  rw [E7]
  have iA : ArIn H7 AR (.ref ta) := ⟨ta, zA, rfl, k7, hzA.mono fun o x => PosIn.tp (Tp.same s7)⟩
  have hAN : ((AR.length : Nat) : Int) = N := by omega
  have s27 := s3.trans (s4.trans (s5.trans (s6.trans s7)))
  have dA : ∀ d : Nat, d ≤ 1 → DlG AR d := fun d hd => by
    have h3 : 3 ^ d ≤ 3 := by
      rcases d with _ | _ | d
      · decide
      · decide
      · omega
    exact dlg_of 13 3 (by omega) (by decide) (by omega) (by decide) (by omega) (by omega) fun os ho => ⟨(hAo os ho).1, fun o hoo => by rw [hAN]; exact (hAo os ho).2 o hoo⟩
  -- wide
  refine ⟨_, rfl, by decide, by decide, fun RW hRW => ?_⟩
  refine lc_range (lo := 0) (n := 11) (fun (j : Nat) (H' : Hp) => Same H7 H' ∧ Lo 3 RW j H') ?_ ?_ ?_
  · exact ⟨same_new hRW _, [], [], upd_same, .nil, rfl, fun o h => nomatch h⟩
  · rintro j H8 hj ⟨s8, hL⟩
    generalize hk : (0 : Int) + (j : Int) = k
    refine ⟨rfl, yes_if ?_⟩
    refine ⟨_, rfl, _, rfl, _, _, rfl, rfl, .inl ⟨_, rfl, _, _, rfl, rfl, (show (0 : Int) < 3 by decide), Nat.le_of_ble_eq_true rfl, fun t1 ht1 => ?_⟩⟩
    obtain ⟨H9, E9, s9, k9⟩ := newH ht1 (.tup [V.int ((F + k) % 3)])
    rw [show upd H8 t1 (.tup [V.int ((F + k) % 3)]) = H9 from E9]
    obtain ⟨acc, k10, hl, hL10⟩ := hL.snoc s9 (o := [(F + k) % 3]) k9 (.one (by omega) (by omega))
    exact ⟨acc, k10, big' (by omega), same_put (s8.trans s9) hRW, hL10⟩
  rintro H8 ⟨s8, oW, zW, kW, hzW, hWl, hWo⟩
  refine ⟨RW, zW, rfl, .inl ⟨sqd kW, fun w0 hw0 => ?_⟩⟩
  obtain ⟨H9, E9, s9, k9⟩ := newH hw0 (.tup zW)
  rw [E9]
  refine ⟨_, rfl, Nat.le_of_ble_eq_true rfl, fun w1 hw1 => ?_⟩
  obtain ⟨H10, E10, s10, k10⟩ := newH hw1 (.tup [V.int (-1), V.int 0, V.int 1, V.int 2])
  rw [show upd H9 w1 (.tup [V.int (-1), V.int 0, V.int 1, V.int 2]) = H10 from E10]
  refine ⟨Nat.le_of_ble_eq_true rfl, fun w2 hw2 => ?_⟩
  obtain ⟨H11, E11, s11, k11⟩ := newH hw2 (.tup [V.int 1, V.int 2])
  rw [show upd H10 w2 (.tup [V.int 1, V.int 2]) = H11 from E11]
  refine ⟨Nat.le_of_ble_eq_true rfl, fun w3 hw3 => ?_⟩
  obtain ⟨H12, E12, s12, k12⟩ := newH hw3 (.tup [V.ref w1, V.ref w2])
  rw [E12]
  refine ⟨Nat.zero_le _, fun w4 hw4 => ?_⟩
  obtain ⟨H13, E13, s13, k13⟩ := newH hw4 (.tup [])
  rw [E13]
  refine ⟨Nat.le_of_ble_eq_true rfl, fun w5 hw5 => ?_⟩
  obtain ⟨H14, E14, s14, k14⟩ := newH hw5 (.tup [V.ref w0, V.ref w3, V.ref w4])
  rw [E14]
  have s1114 := s12.trans (s13.trans s14)
  have s1014 := s11.trans s1114
  have s914 := s10.trans s1014
  have s714 := s8.trans (s9.trans s914)
  have iW : ArIn H14 [oW, [[-1, 0, 1, 2], [1, 2]], []] (.ref w5) := by
    refine ⟨w5, _, rfl, k14, .cons ⟨w0, zW, rfl, s914 _ _ k9, hzW.mono fun o x => OptIn.tp (Tp.same (s9.trans s914))⟩ (.cons ⟨w3, _, rfl, (s13.trans s14) _ _ k12, .cons ⟨w1, rfl, s1014 _ _ k10⟩ (.cons ⟨w2, rfl, s1114 _ _ k11⟩ .nil)⟩ (.cons ⟨w4, _, rfl, s14 _ _ k13, .nil⟩ .nil))⟩
  have dW : DlG [oW, [[-1, 0, 1, 2], [1, 2]], []] 1 := by
    refine dlg_of 3 11 (Nat.le_refl _) (by decide) (by decide) (by decide) (by decide) (by decide) fun os ho => ?_
    show os.length ≤ 11 ∧ ∀ o ∈ os, OptG 3 o
    simp only [List.mem_cons, List.not_mem_nil, or_false] at ho
    rcases ho with rfl | rfl | rfl
    · exact ⟨by omega, hWo⟩
    · refine ⟨by decide, fun o ho => ?_⟩
      simp only [List.mem_cons, List.not_mem_nil, or_false] at ho
      rcases ho with rfl | rfl
      · exact ⟨by simp, by simp, by decide, by decide⟩
      · exact ⟨by simp, by simp, by decide, by decide⟩
    · exact ⟨by decide, fun o h => nomatch h⟩
  -- two
  refine ⟨Nat.le_of_ble_eq_true rfl, fun y1 hy1 => ?_⟩
  obtain ⟨H15, E15, s15, k15⟩ := newH hy1 (.tup [V.int 0, V.int 1])
  rw [show upd H14 y1 (.tup [V.int 0, V.int 1]) = H15 from E15]
  refine ⟨Nat.le_of_ble_eq_true rfl, fun y2 hy2 => ?_⟩
  obtain ⟨H16, E16, s16, k16⟩ := newH hy2 (.tup [V.int 1])
  rw [show upd H15 y2 (.tup [V.int 1]) = H16 from E16]
  refine ⟨Nat.le_of_ble_eq_true rfl, fun y3 hy3 => ?_⟩
  obtain ⟨H17, E17, s17, k17⟩ := newH hy3 (.tup [V.ref y1, V.ref y2])
  rw [E17]
  refine ⟨_, rfl, Nat.le_of_ble_eq_true rfl, fun y4 hy4 => ?_⟩
  obtain ⟨H18, E18, s18, k18⟩ := newH hy4 (.tup [V.int (-1), V.int 0])
  rw [show upd H17 y4 (.tup [V.int (-1), V.int 0]) = H18 from E18]
  refine ⟨Nat.le_of_ble_eq_true rfl, fun y5 hy5 => ?_⟩
  obtain ⟨H19, E19, s19, k19⟩ := newH hy5 (.tup [V.int 0])
  rw [show upd H18 y5 (.tup [V.int 0]) = H19 from E19]
  refine ⟨Nat.le_of_ble_eq_true rfl, fun y6 hy6 => ?_⟩
  obtain ⟨H20, E20, s20, k20⟩ := newH hy6 (.tup [V.ref y4, V.ref y5])
  rw [E20]
  refine ⟨Nat.le_of_ble_eq_true rfl, fun y7 hy7 => ?_⟩
  obtain ⟨H21, E21, s21, k21⟩ := newH hy7 (.tup [V.int 0, V.int 2])
  rw [show upd H20 y7 (.tup [V.int 0, V.int 2]) = H21 from E21]
  refine ⟨Nat.le_of_ble_eq_true rfl, fun y8 hy8 => ?_⟩
  obtain ⟨H22, E22, s22, k22⟩ := newH hy8 (.tup [V.int 2])
  rw [show upd H21 y8 (.tup [V.int 2]) = H22 from E22]
  refine ⟨Nat.le_of_ble_eq_true rfl, fun y9 hy9 => ?_⟩
  obtain ⟨H23, E23, s23, k23⟩ := newH hy9 (.tup [V.ref y7, V.ref y8])
  rw [E23]
  refine ⟨Nat.le_of_ble_eq_true rfl, fun ya hya => ?_⟩
  obtain ⟨H24, E24, s24, k24⟩ := newH hya (.tup [V.ref y3, V.ref y6, V.ref y9])
  rw [E24]
  have r22 := s23.trans s24
  have r21 := s22.trans r22
  have r20 := s21.trans r21
  have r19 := s20.trans r20
  have r18 := s19.trans r19
  have r17 := s18.trans r18
  have r16 := s17.trans r17
  have r15 := s16.trans r16
  obtain ⟨hb, hhb, hb23⟩ : ∃ h : Nat, (2 : Int) + F % 2 = (h : Int) ∧ (h = 2 ∨ h = 3) := ⟨((2 : Int) + F % 2).toNat, by omega, by omega⟩
  refine ⟨_, rfl, .inl ⟨_, rfl, _, _, rfl, rfl, (show (0 : Int) < 2 by decide), _, _, rfl, rfl, _, rfl, ?_⟩⟩
  dsimp only
  rw [hhb]
  refine slA_of k24 fun tp H25 s25 k25 => ?_
  rw [cut_pre] at k25
  have iT : ArIn H25 ([[[0, 1], [1]], [[-1, 0], [0]], [[0, 2], [2]]].take hb) (.ref tp) := by
    refine ⟨tp, _, rfl, k25, Each.take (.cons ⟨y3, _, rfl, (r17.trans s25) _ _ k17, .cons ⟨y1, rfl, (r15.trans s25) _ _ k15⟩ (.cons ⟨y2, rfl, (r16.trans s25) _ _ k16⟩ .nil)⟩ (.cons ⟨y6, _, rfl, (r20.trans s25) _ _ k20, .cons ⟨y4, rfl, (r18.trans s25) _ _ k18⟩ (.cons ⟨y5, rfl, (r19.trans s25) _ _ k19⟩ .nil)⟩ (.cons ⟨y9, _, rfl, (s24.trans s25) _ _ k23, .cons ⟨y7, rfl, (r21.trans s25) _ _ k21⟩ (.cons ⟨y8, rfl, (r22.trans s25) _ _ k22⟩ .nil)⟩ .nil))) hb⟩
  have dT : ∀ d : Nat, d = 5 ∨ d = 6 → DlG ([[[0, 1], [1]], [[-1, 0], [0]], [[0, 2], [2]]].take hb) d := fun d hd => by
    have h1 : 2 ^ d ≤ 64 := by rcases hd with rfl | rfl <;> decide
    have go : ∀ n : Nat, n = 2 ∨ n = 3 → ∀ os ∈ ([[[0, 1], [1]], [[-1, 0], [0]], [[0, 2], [2]]] : Ar).take n, os.length ≤ 2 ∧ ∀ o ∈ os, OptG (n : Int) o := by
      intro n hn os ho
      rcases hn with rfl | rfl
      · simp only [List.take_succ_cons, List.take_zero, List.mem_cons, List.not_mem_nil, or_false] at ho
        rcases ho with rfl | rfl
        · exact ⟨by decide, fun o ho => by
            simp only [List.mem_cons, List.not_mem_nil, or_false] at ho
            rcases ho with rfl | rfl <;> exact ⟨by simp, by simp, by decide, by decide⟩⟩
        · exact ⟨by decide, fun o ho => by
            simp only [List.mem_cons, List.not_mem_nil, or_false] at ho
            rcases ho with rfl | rfl <;> exact ⟨by simp, by simp, by decide, by decide⟩⟩
      · simp only [List.take_succ_cons, List.take_zero, List.mem_cons, List.not_mem_nil, or_false] at ho
        rcases ho with rfl | rfl | rfl
        · exact ⟨by decide, fun o ho => by
            simp only [List.mem_cons, List.not_mem_nil, or_false] at ho
            rcases ho with rfl | rfl <;> exact ⟨by simp, by simp, by decide, by decide⟩⟩
        · exact ⟨by decide, fun o ho => by
            simp only [List.mem_cons, List.not_mem_nil, or_false] at ho
            rcases ho with rfl | rfl <;> exact ⟨by simp, by simp, by decide, by decide⟩⟩
        · exact ⟨by decide, fun o ho => by
            simp only [List.mem_cons, List.not_mem_nil, or_false] at ho
            rcases ho with rfl | rfl <;> exact ⟨by simp, by simp, by decide, by decide⟩⟩
    have hlen : (([[[0, 1], [1]], [[-1, 0], [0]], [[0, 2], [2]]] : Ar).take hb).length = hb := by
      rcases hb23 with rfl | rfl <;> rfl
    exact dlg_of 3 2 (by rw [hlen]; omega) (by decide) (by omega) (by decide) (by omega) (by omega) fun os ho => by rw [hlen]; exact go hb hb23 os ho
  -- the tests
  have s725 := s714.trans ((s15.trans r15).trans s25)
  have g25 : Go d H H25 := g12.trans (.same g12.dr (s27.trans ((s714.trans ((s15.trans r15).trans s25)))))
  refine ⟨_, rfl, .ref ta, AR, 0, rfl, iA.tp (Tp.same s725), dA 0 (by decide), fun H26 s26 => ⟨true, rfl, iteF ?_⟩⟩
  refine ⟨_, rfl, .ref ta, AR, 1, rfl, iA.tp (Tp.same (s725.trans s26)), dA 1 (by decide), fun H27 s27' => ⟨true, rfl, iteF ?_⟩⟩
  refine ⟨_, rfl, .ref w5, _, 1, rfl, iW.tp (Tp.same ((((s15.trans r15).trans s25).trans s26).trans s27')), dW, fun H28 s28 => ⟨true, rfl, iteF ?_⟩⟩
  obtain ⟨d1, hd1, hd1'⟩ : ∃ h : Nat, (5 : Int) + F / 2 % 2 = (h : Int) ∧ (h = 5 ∨ h = 6) := ⟨((5 : Int) + F / 2 % 2).toNat, by omega, by omega⟩
  obtain ⟨d2, hd2, hd2'⟩ : ∃ h : Nat, (2 : Int) + F % 8 = (h : Int) ∧ h ≤ 9 := ⟨((2 : Int) + F % 8).toNat, by omega, by omega⟩
  refine ⟨_, rfl, _, rfl, _, _, rfl, rfl, ⟨by decide, by omega⟩, .inl ⟨_, rfl, _, _, rfl, rfl, (show (0 : Int) < 2 by decide), _, _, rfl, rfl, ?_⟩⟩
  dsimp only
  rw [hd1]
  refine ⟨.ref tp, _, d1, rfl, iT.tp (Tp.same (s26.trans (s27'.trans s28))), dT d1 hd1', fun H29 s29 => ⟨true, rfl, iteT ?_⟩⟩
  refine ⟨Nat.le_of_ble_eq_true rfl, fun v1 hv1 => ?_⟩
  obtain ⟨H30, E30, s30, k30⟩ := newH hv1 (.tup [V.int 1])
  rw [show upd H29 v1 (.tup [V.int 1]) = H30 from E30]
  refine ⟨Nat.le_of_ble_eq_true rfl, fun v2 hv2 => ?_⟩
  obtain ⟨H31, E31, s31, k31⟩ := newH hv2 (.tup [V.ref v1])
  rw [E31]
  refine ⟨Nat.le_of_ble_eq_true rfl, fun v3 hv3 => ?_⟩
  obtain ⟨H32, E32, s32, k32⟩ := newH hv3 (.tup [V.int 0])
  rw [show upd H31 v3 (.tup [V.int 0]) = H32 from E32]
  refine ⟨Nat.le_of_ble_eq_true rfl, fun v4 hv4 => ?_⟩
  obtain ⟨H33, E33, s33, k33⟩ := newH hv4 (.tup [V.ref v3])
  rw [E33]
  refine ⟨Nat.zero_le _, fun v5 hv5 => ?_⟩
  obtain ⟨H34, E34, s34, k34⟩ := newH hv5 (.tup [])
  rw [E34]
  refine ⟨Nat.le_of_ble_eq_true rfl, fun v6 hv6 => ?_⟩
  obtain ⟨H35, E35, s35, k35⟩ := newH hv6 (.tup [V.ref v2, V.ref v4, V.ref v5])
  rw [E35]
  refine ⟨_, rfl, .inl ⟨_, rfl, _, _, rfl, rfl, (show (0 : Int) < 8 by decide), _, _, rfl, rfl, ?_⟩⟩
  dsimp only
  rw [hd2]
  have r33 := s34.trans s35
  have r32 := s33.trans r33
  have r31 := s32.trans r32
  have r30 := s31.trans r31
  refine ⟨.ref v6, [[[1]], [[0]], []], d2, rfl, ⟨v6, _, rfl, k35, .cons ⟨v2, _, rfl, r31 _ _ k31, .cons ⟨v1, rfl, r30 _ _ k30⟩ .nil⟩ (.cons ⟨v4, _, rfl, r33 _ _ k33, .cons ⟨v3, rfl, r32 _ _ k32⟩ .nil⟩ (.cons ⟨v5, _, rfl, s35 _ _ k34, .nil⟩ .nil))⟩, ?_, fun H36 s36 => q H36 (g25.trans (.same g25.dr (s26.trans (s27'.trans (s28.trans (s29.trans (s30.trans (r30.trans s36))))))))⟩
  refine dlg_of 3 1 (Nat.le_refl _) (by decide) (by omega) (by decide) (by rw [Nat.one_pow]; decide) (by rw [Nat.one_pow]; decide) fun os ho => ?_
  show os.length ≤ 1 ∧ ∀ o ∈ os, OptG 3 o
  simp only [List.mem_cons, List.not_mem_nil, or_false] at ho
  rcases ho with rfl | rfl | rfl
  · exact ⟨by decide, fun o ho => by rw [List.mem_singleton.mp ho]; exact .one (by decide) (by decide)⟩
  · exact ⟨by decide, fun o ho => by rw [List.mem_singleton.mp ho]; exact .one (by decide) (by decide)⟩
  · exact ⟨by decide, fun o h => nomatch h⟩
end
end NL

set_option maxHeartbeats 4000000
namespace NL
open PySem PySem.Spec PyProof.Rows L2
def pdF (m : Nat) (os : Pos') : Pos' := os ++ List.replicate (m - os.length) [-1]
theorem pdF_at {m i : Nat} {os : Pos'} (hi : i < m) (hm : os.length ≤ m) : (pdF m os)[i]? = some (dlO os 1 i) := by
  unfold pdF dlO
  rw [Nat.div_one]
  by_cases h : i < os.length
  · rw [List.getElem?_append_left h, List.getElem?_eq_getElem h]
    refine congrArg some ?_
    refine ((List.map_congr_left fun a _ => ?_).trans (List.map_id _)).symm
    by_cases e : a = -1
    · rw [if_pos e, e]
      rfl
    · rw [if_neg e, Nat.mod_one]
      show a * 1 + 0 = a
      omega
  · rw [List.getElem?_append_right (by omega), List.getElem?_eq_none (show os.length ≤ i by omega), List.getElem?_replicate]
    rw [if_pos (by omega)]
theorem pdF_dl {m : Nat} {os : Pos'} (hm : os.length ≤ m) : dlP m 1 os 0 = pdF m os := by
  have hl : (pdF m os).length = m := by
    unfold pdF
    rw [List.length_append, List.length_replicate]
    omega
  refine List.ext_getElem? fun i => ?_
  by_cases hi : i < m
  · rw [dlP_at hi, pdF_at hi hm, Nat.zero_mul, Nat.zero_add]
  · rw [List.getElem?_eq_none (by rw [dlP_len]; omega), List.getElem?_eq_none (by omega)]
theorem dlA_pad (A : Ar) : dlA A 0 = A.map (pdF (mst A)) := by
  unfold dlA
  rw [Nat.pow_zero]
  have go : ∀ l : Ar, (∀ os ∈ l, os.length ≤ mst A) → l.flatMap (dlB (mst A) 1) = l.map (pdF (mst A)) := by
    intro l
    induction l with
    | nil => intro _; rfl
    | cons a r ih =>
      intro h
      rw [List.flatMap_cons, List.map_cons, ih fun os ho => h os (List.mem_cons_of_mem _ ho)]
      have : dlB (mst A) 1 a = [pdF (mst A) a] := by
        unfold dlB
        show [dlP (mst A) 1 a 0] = _
        rw [pdF_dl (h a List.mem_cons_self)]
      rw [this]
      rfl
  exact go A fun os ho => mst_le ho
theorem rep_fl {α : Type} (x : α) : ∀ n : Nat, (List.replicate n [x]).flatten = List.replicate n x
  | 0 => rfl
  | n + 1 => by rw [List.replicate_succ, List.replicate_succ, List.flatten_cons, rep_fl x n]; rfl
theorem each_rep {α : Type} {R : α → V → Prop} {a : α} {x : V} (h : R a x) : ∀ n : Nat, Each R (List.replicate n a) (List.replicate n x)
  | 0 => .nil
  | n + 1 => by rw [List.replicate_succ, List.replicate_succ]; exact .cons h (each_rep h n)
theorem mst_none (n : Nat) : mst (List.replicate n ([] : Pos')) = 0 := by
  have : mst (List.replicate n ([] : Pos')) ≤ 0 := mst_ub fun os ho => by
    rw [List.eq_of_mem_replicate ho]
    exact Nat.le_refl 0
  omega
theorem dlA_none (n : Nat) : dlA (List.replicate n ([] : Pos')) 0 = List.replicate n [] := by
  rw [dlA_pad, mst_none, List.map_replicate]
  rfl
theorem dlg_none {n d : Nat} (hn : n ≤ 3) (hd : d ≤ 1) : DlG (List.replicate n ([] : Pos')) d := by
  have h1 : 0 ^ d ≤ 1 := by
    rcases d with _ | _ | d
    · decide
    · decide
    · omega
  exact dlg_of 3 0 (by rw [List.length_replicate]; exact hn) (by decide) (by omega) (by decide) (by omega) (by omega) fun os ho => by
    rw [List.eq_of_mem_replicate ho]
    exact ⟨Nat.le_refl 0, fun o h => nomatch h⟩
theorem alk_nil {H : Hp} {n : Nat} {a b : Addr} (ha : H a = some (.tup [])) (hb : H b = some (.tup [])) : Alk (n + 1) H (.ref a) (.ref b) :=
  .inr (.inr (.inr ⟨a, b, [], [], rfl, rfl, ha, hb, rfl, Nat.zero_le _, fun k x y h => nomatch h⟩))
theorem each_nil {α : Type} {R : α → V → Prop} {l : List α} {xs : List V} (h : Each R l xs) (hl : l.length = 0) : xs = [] := List.eq_nil_of_length_eq_zero (by rw [h.1, hl])
def spLaw (K : PySem.W.Frag) : Sp := fun vs H Q _ => ∃ (a : Addr) (ns : List Int), vs = [.ref a] ∧ SqL K H a (ns.map V.int) ∧ ns.length ≤ 63 ∧ ∀ H', Q (.bl true) H'
section
variable {P : Program} {w : World} {K : PySem.W.Frag} {mg : Str → Option Value} {base : Heap}
theorem ok_law (T : Txt K mg) : FnOk P w K mg base CX0 9 T.alaw T.dlaw Plaw (spLaw K) := by
  have G_law_draws := ok_law_draws (P := P) (w := w) (base := base) T
  have G_law_small := ok_law_small (P := P) (w := w) (base := base) T
  have G_law_take := ok_law_take (P := P) (w := w) (base := base) T
  have G_law_is_delayed := ok_law_is_delayed (P := P) (w := w) (base := base) T
  have G_law_are_larger := ok_law_are_larger (P := P) (w := w) (base := base) T
  have G_law_same := ok_law_same (P := P) (w := w) (base := base) T 5
  have Gdelayed_arena := ok_delayed_arena (P := P) (w := w) (base := base) T
  refine T.Flaw.ok sclaw (fun vs H Q E h => ?_) (fun cdv A outer s H vs Q E hr h => ?_)
  · obtain ⟨a, ns, rfl, _⟩ := h
    rfl
  obtain ⟨a, ns, rfl, hS, hl, q⟩ := h
  refine ⟨_, (pss_cons (ps_set (i := 1) sclaw.nd rfl (Or.inl rfl) (pe_call G_law_draws (hr.mono (by omega)) (by rfl) T.m_law_draws T.F_law_draws.kp T.b_law_draws .nil pass0 (pa_cons (pv 0) (pa_cons pe_int pa_nil))))
    (pss_cons (ps_set (i := 2) sclaw.nd rfl (Or.inl rfl) (pe_call G_law_small (hr.mono (by omega)) (by rfl) T.m_law_small T.F_law_small.kp T.b_law_small .nil pass0 (pa_cons (pv 1) (pa_cons pe_int pa_nil))))
    (pss_cons (ps_set (i := 3) sclaw.nd rfl (Or.inl rfl) (pe_lst (pa_cons pe_int (pa_cons pe_int (pa_cons pe_int pa_nil)))))
    (C8.pss_cut (ps_if (pt_cmpR op_lt (pe_callB call_len_seq (by rfl) T.z_len PySem.boot_len (pa_cons (pv 2) pa_nil)) pe_int (nomark _))
    (pss_one (ps_set (i := 3) sclaw.nd rfl (Or.inl rfl) (pe_lst (pa_cons pe_int (pa_cons pe_int (pa_cons pe_int (pa_cons pe_int pa_nil)))))))
    pss_nil)
    (pss_cons (ps_for  PassesOwn.never rfl (pi_list (pv 3)) (pg_name (i := 4) sclaw.nd rfl (Or.inl rfl))
    (pss_one (ps_if (pt_not (pt_val (pe_call G_law_is_delayed (hr.mono (by omega)) (by rfl) T.m_law_is_delayed T.F_law_is_delayed.kp T.b_law_is_delayed .nil pass0 (pa_cons (pv 2) (pa_cons (pv 4) pa_nil)))))
    (pss_one (ps_ret pe_bl))
    pss_nil)))
    (C8.pss_cut (ps_if (PW.pt (pw_and (pt_cmpR op_eq (pe_call G_law_take (hr.mono (by omega)) (by rfl) T.m_law_take T.F_law_take.kp T.b_law_take .nil pass0 (pa_cons (pv 1) (pa_cons pe_int pa_nil))) pe_int (nomark _)) (pw_and1 (pt_not (pt_val (pe_call G_law_are_larger (hr.mono (by omega)) (by rfl) T.m_law_are_larger T.F_law_are_larger.kp T.b_law_are_larger .nil pass0 (pa_cons (pv 1) pa_nil)))))))
    (pss_one (ps_ret pe_bl))
    pss_nil)
    (pss_cons (ps_set (i := 5) sclaw.nd rfl (Or.inr rfl) (pe_callB (cr_max rfl) (by rfl) T.z_max (by decide +kernel) (pa_cons (pe_op op_cat (pe_lst (pa_cons pe_int pa_nil)) (pe_lc (own := [("options", 6)]) (g := (gName 6)) (tt := tYes) rfl sclaw.nd (pi_tup (pv 2)) (blkOk_by (N := Nlaw) (sc := defScope slaw) (by decide +kernel)) (fun _ _ _ _ _ => (pg_name (i := 6) sclaw.nd rfl (Or.inl rfl))) (fun _ _ _ _ _ => pts_nil) (fun _ _ _ _ _ => (pe_callB (call_len_seqK (K := K) rfl) (by rfl) T.z_len PySem.boot_len (pa_cons (pv 6) pa_nil))))) pa_nil)))
    (pss_cons (ps_set (i := 7) sclaw.nd rfl (Or.inl rfl) (pe_callTy call_tuple_of (by rfl) T.z_tuple (by decide +kernel) (pa_cons (pe_lc (own := [("options", 6)]) (g := (gName 6)) (tt := tYes) rfl sclaw.nd (pi_tup (pv 2)) (blkOk_by (N := Nlaw) (sc := defScope slaw) (by decide +kernel)) (fun _ _ _ _ _ => (pg_name (i := 6) sclaw.nd rfl (Or.inl rfl))) (fun _ _ _ _ _ => pts_nil) (fun _ _ _ _ _ => (pe_op (op_catAK (K := K) rfl) (pv 6) (pe_op (op_repZK (K := K) rfl) (pe_tup (pa_cons (pe_tup (pa_cons (pe_un un_neg pe_int) pa_nil)) pa_nil)) (pe_op op_sub (pv 5) (pe_callB (call_len_seqK (K := K) rfl) (by rfl) T.z_len PySem.boot_len (pa_cons (pv 6) pa_nil))))))) pa_nil)))
    (pss_cons (ps_if (pt_not (pt_val (pe_call G_law_same (hr.mono (by omega)) (by rfl) T.m_law_same T.F_law_same.kp T.b_law_same .nil pass0 (pa_cons (pe_ix ix_tup (pe_call Gdelayed_arena (hr.mono (by omega)) (by rfl) T.mdelayed_arena T.Fdelayed_arena.kp T.bdelayed_arena .nil pass0 (pa_cons (pv 2) (pa_cons pe_int pa_nil))) pe_int (fun _ _ => rfl)) (pa_cons (pv 7) pa_nil)))))
    (pss_one (ps_ret pe_bl))
    pss_nil)
    (pss_cons (ps_set (i := 8) sclaw.nd rfl (Or.inl rfl) (pe_callTy call_tuple_of (by rfl) T.z_tuple (by decide +kernel) (pa_cons (pe_lc (own := [("k", 9)]) (g := (gName 9)) (tt := tYes) rfl sclaw.nd (pi_range1 (by rfl) T.z_range (pa_cons (pe_call G_law_take (hr.mono (by omega)) (by rfl) T.m_law_take T.F_law_take.kp T.b_law_take .nil pass0 (pa_cons (pv 1) (pa_cons pe_int pa_nil))) pa_nil)) (blkOk_by (N := Nlaw) (sc := defScope slaw) (by decide +kernel)) (fun _ _ _ _ _ => (pg_name (i := 9) sclaw.nd rfl (Or.inl rfl))) (fun _ _ _ _ _ => pts_nil) (fun _ _ _ _ _ => (pe_tup pa_nil))) pa_nil)))
    (pss_cons (ps_set (i := 10) sclaw.nd rfl (Or.inl rfl) (pe_callTy call_tuple_of (by rfl) T.z_tuple (by decide +kernel) (pa_cons (pe_lc (own := [("k", 9)]) (g := (gName 9)) (tt := tYes) rfl sclaw.nd (pi_range1 (by rfl) T.z_range (pa_cons (pe_callB call_len_seq (by rfl) T.z_len PySem.boot_len (pa_cons (pv 8) pa_nil)) pa_nil)) (blkOk_by (N := Nlaw) (sc := defScope slaw) (by decide +kernel)) (fun _ _ _ _ _ => (pg_name (i := 9) sclaw.nd rfl (Or.inl rfl))) (fun _ _ _ _ _ => pts_nil) (fun _ _ _ _ _ => (pe_tup (pa_cons (pv 9) (pa_cons (pe_tup pa_nil) pa_nil))))) pa_nil)))
    (pss_one (ps_ret (pe_and (pe_call G_law_same (hr.mono (by omega)) (by rfl) T.m_law_same T.F_law_same.kp T.b_law_same .nil pass0 (pa_cons (pe_call Gdelayed_arena (hr.mono (by omega)) (by rfl) T.mdelayed_arena T.Fdelayed_arena.kp T.bdelayed_arena .nil pass0 (pa_cons (pv 8) (pa_cons pe_int pa_nil))) (pa_cons (pe_tup (pa_cons (pv 8) (pa_cons (pv 10) pa_nil))) pa_nil))) (pe_one (pe_call G_law_same (hr.mono (by omega)) (by rfl) T.m_law_same T.F_law_same.kp T.b_law_same .nil pass0 (pa_cons (pe_call Gdelayed_arena (hr.mono (by omega)) (by rfl) T.mdelayed_arena T.Fdelayed_arena.kp T.bdelayed_arena .nil pass0 (pa_cons (pv 8) (pa_cons pe_int pa_nil))) (pa_cons (pe_tup (pa_cons (pe_tup pa_nil) (pa_cons (pe_tup pa_nil) pa_nil))) pa_nil)))))))))))))))))), ?_⟩
  refine ⟨_, rfl, a, ns, 120, rfl, hS, hl, by decide, by decide, fun d H1 s1 hd D1 => ?_⟩
  refine ⟨_, rfl, d, 6, rfl, D1, by decide, by decide, fun va A0 H2 g2 hA2 hn hGs => ?_⟩
  have hn6 : A0.length ≤ 6 := by omega
  have hDl : ∀ j : Nat, j ≤ 3 → DlG A0 j := fun j hj => by
    have h3 : 3 ^ j ≤ 27 := Nat.pow_le_pow_right (by decide) hj
    exact dlg_of 6 3 hn6 (by decide) (by omega) (by decide) (by omega) (by omega) fun os ho => ⟨(hGs os ho).1, (hGs os ho).2⟩
  obtain ⟨b0, xs, rfl, e0, hxs⟩ := hA2
  have hxl := hxs.1
  have iA2 : ArIn H2 A0 (.ref b0) := ⟨b0, xs, rfl, e0, hxs⟩
  -- delays
  refine ⟨Nat.le_of_ble_eq_true rfl, fun l1 hl1 => ?_⟩
  obtain ⟨H3, E3, s3, k3⟩ := newH hl1 (.lst [V.int 0, V.int 1, V.int 2])
  rw [show upd H2 l1 (.lst [V.int 0, V.int 1, V.int 2]) = H3 from E3]
  refine ⟨fun σ H' => ∃ (lp : Addr) (ds : List Nat), σ = [some (.ref a), some (.ref d), some (.ref b0), some (.ref lp), none, none, none, none, none, none, none] ∧ Same H2 H' ∧ H' lp = some (.lst (ds.map fun j : Nat => V.int (j : Int))) ∧ ∀ j ∈ ds, j ≤ 3, ?_, ?_⟩
  · refine ⟨_, rfl, b0, _, rfl, .inr (sqt (s3 _ _ e0)), _, _, rfl, rfl, _, rfl, ?_⟩
    refine ite2 (fun z => ?_) (fun z => ?_)
    · refine ⟨Nat.le_of_ble_eq_true rfl, fun l2 hl2 => ?_⟩
      exact ⟨l2, [0, 1, 2, 3], rfl, s3.trans (same_new hl2 _), upd_same, by decide⟩
    · exact ⟨l1, [0, 1, 2], rfl, s3, k3, by decide⟩
  rintro σ H4 ⟨lp, ds, rfl, s4, k4, hds⟩
  refine ⟨_, rfl, lp, rfl, ⟨_, sqd k4⟩, ?_⟩
  refine for_list (K := K) (a := lp) (xs := ds.map fun j : Nat => V.int (j : Int)) (fun (i : Nat) (σ : L2.St) (H' : Hp) => ∃ y4 : Option V, σ = [some (.ref a), some (.ref d), some (.ref b0), some (.ref lp), y4, none, none, none, none, none, none] ∧ Same H4 H') ?_ ?_ ?_ ?_
  · exact ⟨_, rfl, Same.refl H4⟩
  · rintro i σ H' _ ⟨y4, rfl, s5⟩
    exact sqd (s5 _ _ k4)
  · rintro i x σ H5 hx ⟨y4, rfl, s5⟩
    rw [List.getElem?_map] at hx
    obtain ⟨j, hj, rfl⟩ := Option.map_eq_some_iff.mp hx
    refine ⟨_, rfl, _, rfl, .ref b0, A0, j, rfl, iA2.tp (Tp.same (s4.trans s5)), hDl j (hds j (List.mem_of_getElem? hj)), fun H6 s6 => ⟨true, rfl, iteF ?_⟩⟩
    exact ⟨_, rfl, s5.trans s6⟩
  rintro σ H5 ⟨y4, rfl, s5⟩
  have s25 := s4.trans s5
  have g5 : Go d H2 H5 := .same g2.dr s25
  -- larger ones
  refine ⟨fun σ H' => σ = [some (.ref a), some (.ref d), some (.ref b0), some (.ref lp), y4, none, none, none, none, none, none] ∧ Go d H2 H', ?_, ?_⟩
  · refine ⟨_, rfl, d, 8, rfl, g5.dr, by decide, fun n H6 g6 n0 n1 => ⟨rfl, _, rfl, ?_⟩⟩
    refine ite2 (fun z => ?_) (fun z => ?_)
    · refine ⟨_, rfl, d, rfl, g6.dr, fun H7 g7 => ⟨true, rfl, iteF ?_⟩⟩
      exact ⟨rfl, (g5.trans g6).trans g7⟩
    · exact iteF ⟨rfl, g5.trans g6⟩
  rintro σ H6 ⟨rfl, g6⟩
  have e06 := g6.tp g2.dr _ _ e0
  have hxs6 := hxs.mono fun o x => PosIn.tp (g6.tp g2.dr) (o := o) (v := x)
  have iA6 : ArIn H6 A0 (.ref b0) := ⟨b0, xs, rfl, e06, hxs6⟩
  -- many
  refine ⟨Nat.le_of_ble_eq_true rfl, fun l0 hl0 => ?_⟩
  obtain ⟨H7, E7, s7, k7⟩ := newH hl0 (.lst [.int 0])
  rw [show upd H6 l0 (.lst [.int 0]) = H7 from E7]
  refine ⟨_, rfl, b0, rfl, ⟨_, sqt (s7 _ _ e06)⟩, fun L hL => ?_⟩
  refine lc_tup (K := K) (a := b0) (xs := xs) (fun (j : Nat) (H' : Hp) => Same H7 H' ∧ H' L = some (.lst (((A0.take j).map fun os : Pos' => ((os.length : Nat) : Int)).map V.int))) ?_ ?_ ?_ ?_
  · exact ⟨same_new hL _, upd_same⟩
  · rintro j H' _ ⟨s8, _⟩
    exact sqt ((s7.trans s8) _ _ e06)
  · rintro j x H8 hx ⟨s8, k8⟩
    have hjl := (List.getElem?_eq_some_iff.mp hx).1
    have hos := List.getElem?_eq_getElem (show j < A0.length by omega)
    generalize A0[j] = os at hos
    obtain ⟨b1, ys, rfl, e1, hys⟩ := hxs6.2 j os x hos hx
    refine ⟨rfl, yes_if ?_⟩
    refine ⟨_, rfl, b1, _, rfl, .inr (sqt ((s7.trans s8) _ _ e1)), _, k8, big' (by rw [List.length_map, List.length_map, List.length_take]; omega), same_put s8 hL, ?_⟩
    rw [upd_same, List.take_add_one, hos, List.map_append, List.map_append, hys.1]
    rfl
  rintro H8 ⟨s8, k8⟩
  rw [hxl, List.take_length] at k8
  refine ⟨l0, L, _, _, rfl, rfl, s8 _ _ k7, k8, big (by rw [List.length_map, List.length_map, List.length_singleton]; omega), fun p9 hp9 => ?_⟩
  obtain ⟨H9, E9, s9, k9⟩ := newH hp9 (.lst ([.int 0] ++ ((A0.map fun os : Pos' => ((os.length : Nat) : Int)).map V.int)))
  rw [E9]
  refine ⟨p9, (0 : Int) :: (A0.map fun os : Pos' => ((os.length : Nat) : Int)), rfl, sqd k9, Nat.succ_pos _, fun mi hm0 hm1 => ?_⟩
  obtain rfl := mx_mst hm0 hm1
  have s69 := s7.trans (s8.trans s9)
  have hm3 : mst A0 ≤ 3 := mst_ub fun os ho => (hGs os ho).1
  -- padded
  refine ⟨_, rfl, b0, rfl, ⟨_, sqt (s69 _ _ e06)⟩, fun L2' hL2 => ?_⟩
  refine lc_tup (K := K) (a := b0) (xs := xs) (fun (j : Nat) (H' : Hp) => ∃ zs, Same H9 H' ∧ H' L2' = some (.lst zs) ∧ Each (PosIn H') ((A0.take j).map (pdF (mst A0))) zs) ?_ ?_ ?_ ?_
  · exact ⟨[], same_new hL2 _, upd_same, .nil⟩
  · rintro j H' _ ⟨zs, s10, _⟩
    exact sqt ((s69.trans s10) _ _ e06)
  · rintro j x H10 hx ⟨zs, s10, k10, hzs⟩
    have hjl := (List.getElem?_eq_some_iff.mp hx).1
    have hos := List.getElem?_eq_getElem (show j < A0.length by omega)
    generalize A0[j] = os at hos
    obtain ⟨b1, ys, rfl, e1, hys⟩ := hxs6.2 j os x hos hx
    have hzl := hzs.1
    rw [List.length_map, List.length_take] at hzl
    have hyl := hys.1
    have hol := mst_le (List.mem_of_getElem? hos)
    have s610 := s69.trans s10
    refine ⟨rfl, yes_if ?_⟩
    refine ⟨_, rfl, _, rfl, Nat.le_of_ble_eq_true rfl, fun t1 ht1 => ?_⟩
    obtain ⟨H11, E11, s11, k11⟩ := newH ht1 (.tup [V.int (-1)])
    rw [show upd H10 t1 (.tup [V.int (-1)]) = H11 from E11]
    refine ⟨Nat.le_of_ble_eq_true rfl, fun t2 ht2 => ?_⟩
    obtain ⟨H12, E12, s12, k12⟩ := newH ht2 (.tup [V.ref t1])
    rw [E12]
    have s612 := s610.trans (s11.trans s12)
    have fin : ∀ (p : Addr) (H' : Hp), Same H12 H' → H' p = some (.tup (List.replicate (mst A0 - os.length) (V.ref t1))) → rCatA K (.ref b1) (.ref p) H' fun y H4 => ∃ acc, H4 L2' = some (.lst acc) ∧ acc.length < sizeLine ∧ ∃ zs, Same H9 (upd H4 L2' (.lst (acc ++ [y]))) ∧ upd H4 L2' (.lst (acc ++ [y])) L2' = some (.lst zs) ∧ Each (PosIn (upd H4 L2' (.lst (acc ++ [y])))) ((A0.take (j + 1)).map (pdF (mst A0))) zs := fun p H' s13 k13 => by
      refine catA_of (s13 _ _ (s612 _ _ e1)) k13 (by rw [List.length_replicate]; omega) fun pp H14 s14 k14 => ?_
      have s1014 := (s11.trans s12).trans (s13.trans s14)
      have d14 := s1014 _ _ k10
      have tt : Tp H14 (upd H14 L2' (.lst (zs ++ [.ref pp]))) := tp_put Tp.refl d14
      refine ⟨zs, d14, big' (by omega), zs ++ [.ref pp], same_put (s10.trans s1014) hL2, upd_same, ?_⟩
      rw [List.take_add_one, hos, List.map_append]
      refine (hzs.mono fun o x => PosIn.tp ((Tp.same s1014).trans tt)).snoc (PosIn.tp tt ⟨pp, _, rfl, k14, ?_⟩)
      exact (hys.mono fun o x => OptIn.tp (Tp.same (s612.trans (s13.trans s14)))).app (each_rep ⟨t1, rfl, (s12.trans (s13.trans s14)) _ _ k11⟩ _)
    refine ⟨_, rfl, _, rfl, b1, _, rfl, .inr (sqt (s612 _ _ e1)), _, _, rfl, rfl, t2, _, _, rfl, rfl, sqt k12, by simp, by omega, by omega, Nat.le_of_ble_eq_true rfl, fun h1 => ?_, fun h1 p hp => ?_⟩
    · refine fin t2 H12 (Same.refl _) ?_
      rw [k12, show mst A0 - os.length = 1 by omega]
      rfl
    · refine fin p _ (same_new hp _) ?_
      rw [upd_same, rep_fl, show (((mst A0 : Nat) : Int) - ((ys.length : Nat) : Int)).toNat = mst A0 - os.length by omega]
  rintro H10 ⟨zp, s10, k10, hzp⟩
  rw [hxl, List.take_length] at hzp
  refine ⟨L2', zp, rfl, .inl ⟨sqd k10, fun tp htp => ?_⟩⟩
  obtain ⟨H11, E11, s11, k11⟩ := newH htp (.tup zp)
  rw [E11]
  have iP : ArIn H11 (dlA A0 0) (.ref tp) := by
    rw [dlA_pad]
    exact ⟨tp, zp, rfl, k11, hzp.mono fun o x => PosIn.tp (Tp.same s11)⟩
  have s611 := s69.trans (s10.trans s11)
  refine ⟨_, rfl, .ref b0, A0, 0, rfl, iA6.tp (Tp.same s611), hDl 0 (by decide), fun p a1 b1 zs1 H12 s12 k12 ia1 kb1 hz1 => ?_⟩
  refine ⟨p, _, _, _, rfl, rfl, sqt k12, atI0, _, rfl, _, _, rfl, (alk_ar (hDl 0 (by decide)).good ia1 (iP.tp (Tp.same s12))).up, true, rfl, iteF ?_⟩
  have g12 : Go d H2 H12 := g6.trans (.same g6.dr (s611.trans s12))
  -- stuck
  refine ⟨_, rfl, d, 4, rfl, g12.dr, by decide, fun n H13 g13 n0 n1 => ⟨n, rfl, by omega, by omega, fun D hD => ?_⟩⟩
  refine lc_range (lo := 0) (n := n.toNat) (fun (j : Nat) (H' : Hp) => ∃ zs, Same H13 H' ∧ H' D = some (.lst zs) ∧ Each (PosIn H') (List.replicate j []) zs) ?_ ?_ ?_
  · exact ⟨[], same_new hD _, upd_same, .nil⟩
  · rintro j H14 hj ⟨zs, s14, k14, hzs⟩
    have hzl := hzs.1
    rw [List.length_replicate] at hzl
    refine ⟨rfl, yes_if ?_⟩
    refine ⟨Nat.zero_le _, fun t ht => ?_⟩
    obtain ⟨H15, E15, s15, k15⟩ := newH ht (.tup [])
    rw [E15]
    have d15 := s15 _ _ k14
    have tt : Tp H15 (upd H15 D (.lst (zs ++ [.ref t]))) := tp_put Tp.refl d15
    refine ⟨zs, d15, big' (by omega), zs ++ [.ref t], same_put (s14.trans s15) hD, upd_same, ?_⟩
    rw [List.replicate_succ']
    exact (hzs.mono fun o x => PosIn.tp ((Tp.same s15).trans tt)).snoc (PosIn.tp tt ⟨t, [], rfl, k15, .nil⟩)
  rintro H14 ⟨zS, s14, k14, hzS⟩
  refine ⟨D, zS, rfl, .inl ⟨sqd k14, fun sp hsp => ?_⟩⟩
  obtain ⟨H15, E15, s15, k15⟩ := newH hsp (.tup zS)
  rw [E15]
  generalize hnn : n.toNat = m at hzS
  have hm3' : m ≤ 3 := by omega
  have hzl := hzS.1
  rw [List.length_replicate] at hzl
  have iS : ArIn H15 (List.replicate m []) (.ref sp) := ⟨sp, zS, rfl, k15, hzS.mono fun o x => PosIn.tp (Tp.same s15)⟩
  refine ⟨_, rfl, sp, _, rfl, .inr (sqt k15), _, rfl, by omega, by omega, fun D2 hD2 => ?_⟩
  refine lc_range (lo := 0) (n := ((zS.length : Nat) : Int).toNat) (fun (j : Nat) (H' : Hp) => ∃ zs, Same H15 H' ∧ H' D2 = some (.lst zs) ∧ Each (PairIn H') (prF j 0 0) zs) ?_ ?_ ?_
  · exact ⟨[], same_new hD2 _, upd_same, .nil⟩
  · rintro j H16 hj ⟨zs, s16, k16, hzs⟩
    have hzl2 := hzs.1
    rw [prF_len, Nat.pow_zero, Nat.mul_one] at hzl2
    refine ⟨rfl, yes_if ?_⟩
    refine ⟨_, rfl, Nat.zero_le _, fun t ht => ?_⟩
    obtain ⟨H17, E17, s17, k17⟩ := newH ht (.tup [])
    rw [E17]
    refine ⟨Nat.le_of_ble_eq_true rfl, fun t2 ht2 => ?_⟩
    obtain ⟨H18, E18, s18, k18⟩ := newH ht2 (.tup [V.int (0 + (j : Int)), .ref t])
    rw [E18]
    have s1618 := s17.trans s18
    have d18 := s1618 _ _ k16
    have tt : Tp H18 (upd H18 D2 (.lst (zs ++ [.ref t2]))) := tp_put Tp.refl d18
    refine ⟨zs, d18, big' (by omega), zs ++ [.ref t2], same_put (s16.trans s1618) hD2, upd_same, ?_⟩
    rw [prF_s]
    refine (hzs.mono fun o x => PairIn.tp ((Tp.same s1618).trans tt)).snoc (PairIn.tp tt ⟨t2, t, rfl, ?_, s18 _ _ k17⟩)
    rw [k18, Int.zero_add]
  rintro H16 ⟨zQ, s16, k16, hzQ⟩
  rw [show ((zS.length : Nat) : Int).toNat = m by omega] at hzQ
  refine ⟨D2, zQ, rfl, .inl ⟨sqd k16, fun qp hqp => ?_⟩⟩
  obtain ⟨H17, E17, s17, k17⟩ := newH hqp (.tup zQ)
  rw [E17]
  have s1517 := s16.trans s17
  have hd0 : DlG (List.replicate m ([] : Pos')) 0 := dlg_none hm3' (by decide)
  have hd1 : DlG (List.replicate m ([] : Pos')) 1 := dlg_none hm3' (by decide)
  refine ⟨_, rfl, .ref sp, _, 0, rfl, iS.tp (Tp.same s1517), hd0, fun p2 a2 b2 zs2 H18 s18 k18 ia2 kb2 hz2 => ?_⟩
  rw [dlA_none] at ia2
  rw [List.length_replicate, mst_none] at hz2
  refine ⟨_, rfl, _, rfl, Nat.le_of_ble_eq_true rfl, fun t2 ht2 => ?_⟩
  obtain ⟨H19, E19, s19, k19⟩ := newH ht2 (.tup [V.ref sp, .ref qp])
  rw [E19]
  have s1719 := s18.trans s19
  have hgS : ArG (List.replicate m ([] : Pos')) := by
    have := hd0.good
    rw [dlA_none] at this
    exact this
  refine ⟨_, _, rfl, alk_two (s19 _ _ k18) k19 (alk_ar hgS (ia2.tp (Tp.same s19)) (iS.tp (Tp.same (s1517.trans s1719)))) (alk_prs (n := m) (m := 0) (d := 0) (by rw [Nat.pow_zero]; omega) (by decide) (s19 _ _ kb2) (s1719 _ _ k17) (hz2.mono fun x y => PairIn.tp (Tp.same s19)) (hzQ.mono fun x y => PairIn.tp (Tp.same (s17.trans s1719)))), true, rfl, ?_⟩
  refine iteT ⟨_, rfl, .ref sp, _, 1, rfl, iS.tp (Tp.same (s1517.trans s1719)), hd1, fun p3 a3 b3 zs3 H20 s20 k20 ia3 kb3 hz3 => ?_⟩
  rw [List.length_replicate, mst_none] at hz3
  have hz0 := each_nil hz3 (by rw [prF_len, Nat.pow_one, Nat.mul_zero])
  obtain ⟨a3', xs3, rfl, ea3, hx3⟩ := ia3
  have hx0 := each_nil hx3 (by rw [dlA_len, mst_none, Nat.pow_one, Nat.mul_zero])
  subst hz0
  subst hx0
  refine ⟨Nat.zero_le _, fun t3 ht3 => ?_⟩
  obtain ⟨H21, E21, s21, k21⟩ := newH ht3 (.tup [])
  rw [E21]
  refine ⟨Nat.zero_le _, fun t4 ht4 => ?_⟩
  obtain ⟨H22, E22, s22, k22⟩ := newH ht4 (.tup [])
  rw [E22]
  refine ⟨Nat.le_of_ble_eq_true rfl, fun t5 ht5 => ?_⟩
  obtain ⟨H23, E23, s23, k23⟩ := newH ht5 (.tup [V.ref t3, .ref t4])
  rw [E23]
  have s2023 := s21.trans (s22.trans s23)
  exact ⟨_, _, rfl, alk_two (s2023 _ _ k20) k23 (alk_nil (n := 3) (s2023 _ _ ea3) ((s22.trans s23) _ _ k21)) (alk_nil (s2023 _ _ kb3) (s23 _ _ k22)), q H23⟩
end
end NL

namespace NL
open PySem PySem.Spec PyProof.Rows L2
theorem all_mk {l : PySem.W.OpenLaw} {w : World} {K : PySem.W.Frag} {h : Heap} {mg : Str → Option Value} {fa fdelayed_arena f_queues f_options_of f_successors_of fcheck_arena fis_ascending f_law_draws f_law_take f_law_small f_law_queues f_law_number f_law_delayed f_law_same f_law_is_delayed f_law_are_larger flaw : Addr} (X : K.In h) (G : h.Ns mainGlobals mg) (hfa : mg "law" = some (.ref fa))
    {oddelayed_arena andelayed_arena : Option Addr} {sldelayed_arena : Array (Option Value)} {ocdelayed_arena kVdelayed_arena dcdelayed_arena pmdelayed_arena cddelayed_arena ctdelayed_arena : Value}
    {od_queues an_queues : Option Addr} {sl_queues : Array (Option Value)} {oc_queues kV_queues dc_queues pm_queues cd_queues ct_queues : Value}
    {od_options_of an_options_of : Option Addr} {sl_options_of : Array (Option Value)} {oc_options_of kV_options_of dc_options_of pm_options_of cd_options_of ct_options_of : Value}
    {od_successors_of an_successors_of : Option Addr} {sl_successors_of : Array (Option Value)} {oc_successors_of kV_successors_of dc_successors_of pm_successors_of cd_successors_of ct_successors_of : Value}
    {odcheck_arena ancheck_arena : Option Addr} {slcheck_arena : Array (Option Value)} {occheck_arena kVcheck_arena dccheck_arena pmcheck_arena cdcheck_arena ctcheck_arena : Value}
    {odis_ascending anis_ascending : Option Addr} {slis_ascending : Array (Option Value)} {ocis_ascending kVis_ascending dcis_ascending pmis_ascending cdis_ascending ctis_ascending : Value}
    {od_law_draws an_law_draws : Option Addr} {sl_law_draws : Array (Option Value)} {oc_law_draws kV_law_draws dc_law_draws pm_law_draws cd_law_draws ct_law_draws : Value}
    {od_law_take an_law_take : Option Addr} {sl_law_take : Array (Option Value)} {oc_law_take kV_law_take dc_law_take pm_law_take cd_law_take ct_law_take : Value}
    {od_law_small an_law_small : Option Addr} {sl_law_small : Array (Option Value)} {oc_law_small kV_law_small dc_law_small pm_law_small cd_law_small ct_law_small : Value}
    {od_law_queues an_law_queues : Option Addr} {sl_law_queues : Array (Option Value)} {oc_law_queues kV_law_queues dc_law_queues pm_law_queues cd_law_queues ct_law_queues : Value}
    {od_law_number an_law_number : Option Addr} {sl_law_number : Array (Option Value)} {oc_law_number kV_law_number dc_law_number pm_law_number cd_law_number ct_law_number : Value}
    {od_law_delayed an_law_delayed : Option Addr} {sl_law_delayed : Array (Option Value)} {oc_law_delayed kV_law_delayed dc_law_delayed pm_law_delayed cd_law_delayed ct_law_delayed : Value}
    {od_law_same an_law_same : Option Addr} {sl_law_same : Array (Option Value)} {oc_law_same kV_law_same dc_law_same pm_law_same cd_law_same ct_law_same : Value}
    {od_law_is_delayed an_law_is_delayed : Option Addr} {sl_law_is_delayed : Array (Option Value)} {oc_law_is_delayed kV_law_is_delayed dc_law_is_delayed pm_law_is_delayed cd_law_is_delayed ct_law_is_delayed : Value}
    {od_law_are_larger an_law_are_larger : Option Addr} {sl_law_are_larger : Array (Option Value)} {oc_law_are_larger kV_law_are_larger dc_law_are_larger pm_law_are_larger cd_law_are_larger ct_law_are_larger : Value}
    {odlaw anlaw : Option Addr} {sllaw : Array (Option Value)} {oclaw kVlaw dclaw pmlaw cdlaw ctlaw : Value}
    (adelayed_arena : PySem.W.nsIn K mainGlobals "delayed_arena" = some (some (.ref fdelayed_arena))) (ldelayed_arena : K.lookup fdelayed_arena = some ⟨ocdelayed_arena, oddelayed_arena, .func (PySem.W.fnOf "delayed_arena" "delayed_arena" (defArgs sdelayed_arena) (defBody sdelayed_arena) (defScope sdelayed_arena) .none kVdelayed_arena dcdelayed_arena pmdelayed_arena andelayed_arena cddelayed_arena ctdelayed_arena), sldelayed_arena⟩) (cdelayed_arena : PySem.W.codeIn K cddelayed_arena "delayed_arena" = true) (kdelayed_arena : PySem.W.keepIn K (.ref fdelayed_arena) = true)
    (a_queues : PySem.W.nsIn K mainGlobals "_queues" = some (some (.ref f_queues))) (l_queues : K.lookup f_queues = some ⟨oc_queues, od_queues, .func (PySem.W.fnOf "_queues" "_queues" (defArgs s_queues) (defBody s_queues) (defScope s_queues) .none kV_queues dc_queues pm_queues an_queues cd_queues ct_queues), sl_queues⟩) (c_queues : PySem.W.codeIn K cd_queues "_queues" = true) (k_queues : PySem.W.keepIn K (.ref f_queues) = true)
    (a_options_of : PySem.W.nsIn K mainGlobals "_options_of" = some (some (.ref f_options_of))) (l_options_of : K.lookup f_options_of = some ⟨oc_options_of, od_options_of, .func (PySem.W.fnOf "_options_of" "_options_of" (defArgs s_options_of) (defBody s_options_of) (defScope s_options_of) .none kV_options_of dc_options_of pm_options_of an_options_of cd_options_of ct_options_of), sl_options_of⟩) (c_options_of : PySem.W.codeIn K cd_options_of "_options_of" = true) (k_options_of : PySem.W.keepIn K (.ref f_options_of) = true)
    (a_successors_of : PySem.W.nsIn K mainGlobals "_successors_of" = some (some (.ref f_successors_of))) (l_successors_of : K.lookup f_successors_of = some ⟨oc_successors_of, od_successors_of, .func (PySem.W.fnOf "_successors_of" "_successors_of" (defArgs s_successors_of) (defBody s_successors_of) (defScope s_successors_of) .none kV_successors_of dc_successors_of pm_successors_of an_successors_of cd_successors_of ct_successors_of), sl_successors_of⟩) (c_successors_of : PySem.W.codeIn K cd_successors_of "_successors_of" = true) (k_successors_of : PySem.W.keepIn K (.ref f_successors_of) = true)
    (acheck_arena : PySem.W.nsIn K mainGlobals "check_arena" = some (some (.ref fcheck_arena))) (lcheck_arena : K.lookup fcheck_arena = some ⟨occheck_arena, odcheck_arena, .func (PySem.W.fnOf "check_arena" "check_arena" (defArgs scheck_arena) (defBody scheck_arena) (defScope scheck_arena) .none kVcheck_arena dccheck_arena pmcheck_arena ancheck_arena cdcheck_arena ctcheck_arena), slcheck_arena⟩) (ccheck_arena : PySem.W.codeIn K cdcheck_arena "check_arena" = true) (kcheck_arena : PySem.W.keepIn K (.ref fcheck_arena) = true)
    (ais_ascending : PySem.W.nsIn K mainGlobals "is_ascending" = some (some (.ref fis_ascending))) (lis_ascending : K.lookup fis_ascending = some ⟨ocis_ascending, odis_ascending, .func (PySem.W.fnOf "is_ascending" "is_ascending" (defArgs sis_ascending) (defBody sis_ascending) (defScope sis_ascending) .none kVis_ascending dcis_ascending pmis_ascending anis_ascending cdis_ascending ctis_ascending), slis_ascending⟩) (cis_ascending : PySem.W.codeIn K cdis_ascending "is_ascending" = true) (kis_ascending : PySem.W.keepIn K (.ref fis_ascending) = true)
    (a_law_draws : PySem.W.nsIn K mainGlobals "_law_draws" = some (some (.ref f_law_draws))) (l_law_draws : K.lookup f_law_draws = some ⟨oc_law_draws, od_law_draws, .func (PySem.W.fnOf "_law_draws" "_law_draws" (defArgs s_law_draws) (defBody s_law_draws) (defScope s_law_draws) .none kV_law_draws dc_law_draws pm_law_draws an_law_draws cd_law_draws ct_law_draws), sl_law_draws⟩) (c_law_draws : PySem.W.codeIn K cd_law_draws "_law_draws" = true) (k_law_draws : PySem.W.keepIn K (.ref f_law_draws) = true)
    (a_law_take : PySem.W.nsIn K mainGlobals "_law_take" = some (some (.ref f_law_take))) (l_law_take : K.lookup f_law_take = some ⟨oc_law_take, od_law_take, .func (PySem.W.fnOf "_law_take" "_law_take" (defArgs s_law_take) (defBody s_law_take) (defScope s_law_take) .none kV_law_take dc_law_take pm_law_take an_law_take cd_law_take ct_law_take), sl_law_take⟩) (c_law_take : PySem.W.codeIn K cd_law_take "_law_take" = true) (k_law_take : PySem.W.keepIn K (.ref f_law_take) = true)
    (a_law_small : PySem.W.nsIn K mainGlobals "_law_small" = some (some (.ref f_law_small))) (l_law_small : K.lookup f_law_small = some ⟨oc_law_small, od_law_small, .func (PySem.W.fnOf "_law_small" "_law_small" (defArgs s_law_small) (defBody s_law_small) (defScope s_law_small) .none kV_law_small dc_law_small pm_law_small an_law_small cd_law_small ct_law_small), sl_law_small⟩) (c_law_small : PySem.W.codeIn K cd_law_small "_law_small" = true) (k_law_small : PySem.W.keepIn K (.ref f_law_small) = true)
    (a_law_queues : PySem.W.nsIn K mainGlobals "_law_queues" = some (some (.ref f_law_queues))) (l_law_queues : K.lookup f_law_queues = some ⟨oc_law_queues, od_law_queues, .func (PySem.W.fnOf "_law_queues" "_law_queues" (defArgs s_law_queues) (defBody s_law_queues) (defScope s_law_queues) .none kV_law_queues dc_law_queues pm_law_queues an_law_queues cd_law_queues ct_law_queues), sl_law_queues⟩) (c_law_queues : PySem.W.codeIn K cd_law_queues "_law_queues" = true) (k_law_queues : PySem.W.keepIn K (.ref f_law_queues) = true)
    (a_law_number : PySem.W.nsIn K mainGlobals "_law_number" = some (some (.ref f_law_number))) (l_law_number : K.lookup f_law_number = some ⟨oc_law_number, od_law_number, .func (PySem.W.fnOf "_law_number" "_law_number" (defArgs s_law_number) (defBody s_law_number) (defScope s_law_number) .none kV_law_number dc_law_number pm_law_number an_law_number cd_law_number ct_law_number), sl_law_number⟩) (c_law_number : PySem.W.codeIn K cd_law_number "_law_number" = true) (k_law_number : PySem.W.keepIn K (.ref f_law_number) = true)
    (a_law_delayed : PySem.W.nsIn K mainGlobals "_law_delayed" = some (some (.ref f_law_delayed))) (l_law_delayed : K.lookup f_law_delayed = some ⟨oc_law_delayed, od_law_delayed, .func (PySem.W.fnOf "_law_delayed" "_law_delayed" (defArgs s_law_delayed) (defBody s_law_delayed) (defScope s_law_delayed) .none kV_law_delayed dc_law_delayed pm_law_delayed an_law_delayed cd_law_delayed ct_law_delayed), sl_law_delayed⟩) (c_law_delayed : PySem.W.codeIn K cd_law_delayed "_law_delayed" = true) (k_law_delayed : PySem.W.keepIn K (.ref f_law_delayed) = true)
    (a_law_same : PySem.W.nsIn K mainGlobals "_law_same" = some (some (.ref f_law_same))) (l_law_same : K.lookup f_law_same = some ⟨oc_law_same, od_law_same, .func (PySem.W.fnOf "_law_same" "_law_same" (defArgs s_law_same) (defBody s_law_same) (defScope s_law_same) .none kV_law_same dc_law_same pm_law_same an_law_same cd_law_same ct_law_same), sl_law_same⟩) (c_law_same : PySem.W.codeIn K cd_law_same "_law_same" = true) (k_law_same : PySem.W.keepIn K (.ref f_law_same) = true)
    (a_law_is_delayed : PySem.W.nsIn K mainGlobals "_law_is_delayed" = some (some (.ref f_law_is_delayed))) (l_law_is_delayed : K.lookup f_law_is_delayed = some ⟨oc_law_is_delayed, od_law_is_delayed, .func (PySem.W.fnOf "_law_is_delayed" "_law_is_delayed" (defArgs s_law_is_delayed) (defBody s_law_is_delayed) (defScope s_law_is_delayed) .none kV_law_is_delayed dc_law_is_delayed pm_law_is_delayed an_law_is_delayed cd_law_is_delayed ct_law_is_delayed), sl_law_is_delayed⟩) (c_law_is_delayed : PySem.W.codeIn K cd_law_is_delayed "_law_is_delayed" = true) (k_law_is_delayed : PySem.W.keepIn K (.ref f_law_is_delayed) = true)
    (a_law_are_larger : PySem.W.nsIn K mainGlobals "_law_are_larger" = some (some (.ref f_law_are_larger))) (l_law_are_larger : K.lookup f_law_are_larger = some ⟨oc_law_are_larger, od_law_are_larger, .func (PySem.W.fnOf "_law_are_larger" "_law_are_larger" (defArgs s_law_are_larger) (defBody s_law_are_larger) (defScope s_law_are_larger) .none kV_law_are_larger dc_law_are_larger pm_law_are_larger an_law_are_larger cd_law_are_larger ct_law_are_larger), sl_law_are_larger⟩) (c_law_are_larger : PySem.W.codeIn K cd_law_are_larger "_law_are_larger" = true) (k_law_are_larger : PySem.W.keepIn K (.ref f_law_are_larger) = true)
    (alaw : PySem.W.nsIn K mainGlobals "law" = some (some (.ref flaw))) (llaw : K.lookup flaw = some ⟨oclaw, odlaw, .func (PySem.W.fnOf "law" "law" (defArgs slaw) (defBody slaw) (defScope slaw) .none kVlaw dclaw pmlaw anlaw cdlaw ctlaw), sllaw⟩) (claw : PySem.W.codeIn K cdlaw "law" = true) (klaw : PySem.W.keepIn K (.ref flaw) = true)
    (z_bool : PySem.W.nsIn K mainGlobals "bool" = some none)
    (z_divmod : PySem.W.nsIn K mainGlobals "divmod" = some none)
    (z_int : PySem.W.nsIn K mainGlobals "int" = some none)
    (z_isinstance : PySem.W.nsIn K mainGlobals "isinstance" = some none)
    (z_len : PySem.W.nsIn K mainGlobals "len" = some none)
    (z_list : PySem.W.nsIn K mainGlobals "list" = some none)
    (z_max : PySem.W.nsIn K mainGlobals "max" = some none)
    (z_range : PySem.W.nsIn K mainGlobals "range" = some none)
    (z_set : PySem.W.nsIn K mainGlobals "set" = some none)
    (z_sorted : PySem.W.nsIn K mainGlobals "sorted" = some none)
    (z_str : PySem.W.nsIn K mainGlobals "str" = some none)
    (z_tuple : PySem.W.nsIn K mainGlobals "tuple" = some none)
    : ∃ fd : FuncData, (∀ (s : Shared) (v : Value), BindsTo s fd ⟨[v], []⟩ [("script", v)]) ∧ ∀ base : Heap, K.In base → base.Ns mainGlobals mg → FnOk l.prog w K mg base CX0 9 fa fd ["script"] (spLaw K) := by
  have e := hfa.symm.trans (PySem.W.mg_of X G alaw)
  cases e
  let T : Txt K mg := {
    z_bool := PySem.W.mg_none_of X G z_bool
    z_divmod := PySem.W.mg_none_of X G z_divmod
    z_int := PySem.W.mg_none_of X G z_int
    z_isinstance := PySem.W.mg_none_of X G z_isinstance
    z_len := PySem.W.mg_none_of X G z_len
    z_list := PySem.W.mg_none_of X G z_list
    z_max := PySem.W.mg_none_of X G z_max
    z_range := PySem.W.mg_none_of X G z_range
    z_set := PySem.W.mg_none_of X G z_set
    z_sorted := PySem.W.mg_none_of X G z_sorted
    z_str := PySem.W.mg_none_of X G z_str
    z_tuple := PySem.W.mg_none_of X G z_tuple
    adelayed_arena := fdelayed_arena
    ddelayed_arena := _
    Fdelayed_arena := fun_mk (st := sdelayed_arena) ldelayed_arena cdelayed_arena kdelayed_arena
    mdelayed_arena := PySem.W.mg_of X G adelayed_arena
    a_queues := f_queues
    d_queues := _
    F_queues := fun_mk (st := s_queues) l_queues c_queues k_queues
    m_queues := PySem.W.mg_of X G a_queues
    a_options_of := f_options_of
    d_options_of := _
    F_options_of := fun_mk (st := s_options_of) l_options_of c_options_of k_options_of
    m_options_of := PySem.W.mg_of X G a_options_of
    a_successors_of := f_successors_of
    d_successors_of := _
    F_successors_of := fun_mk (st := s_successors_of) l_successors_of c_successors_of k_successors_of
    m_successors_of := PySem.W.mg_of X G a_successors_of
    acheck_arena := fcheck_arena
    dcheck_arena := _
    Fcheck_arena := fun_mk (st := scheck_arena) lcheck_arena ccheck_arena kcheck_arena
    mcheck_arena := PySem.W.mg_of X G acheck_arena
    ais_ascending := fis_ascending
    dis_ascending := _
    Fis_ascending := fun_mk (st := sis_ascending) lis_ascending cis_ascending kis_ascending
    mis_ascending := PySem.W.mg_of X G ais_ascending
    a_law_draws := f_law_draws
    d_law_draws := _
    F_law_draws := fun_mk (st := s_law_draws) l_law_draws c_law_draws k_law_draws
    m_law_draws := PySem.W.mg_of X G a_law_draws
    a_law_take := f_law_take
    d_law_take := _
    F_law_take := fun_mk (st := s_law_take) l_law_take c_law_take k_law_take
    m_law_take := PySem.W.mg_of X G a_law_take
    a_law_small := f_law_small
    d_law_small := _
    F_law_small := fun_mk (st := s_law_small) l_law_small c_law_small k_law_small
    m_law_small := PySem.W.mg_of X G a_law_small
    a_law_queues := f_law_queues
    d_law_queues := _
    F_law_queues := fun_mk (st := s_law_queues) l_law_queues c_law_queues k_law_queues
    m_law_queues := PySem.W.mg_of X G a_law_queues
    a_law_number := f_law_number
    d_law_number := _
    F_law_number := fun_mk (st := s_law_number) l_law_number c_law_number k_law_number
    m_law_number := PySem.W.mg_of X G a_law_number
    a_law_delayed := f_law_delayed
    d_law_delayed := _
    F_law_delayed := fun_mk (st := s_law_delayed) l_law_delayed c_law_delayed k_law_delayed
    m_law_delayed := PySem.W.mg_of X G a_law_delayed
    a_law_same := f_law_same
    d_law_same := _
    F_law_same := fun_mk (st := s_law_same) l_law_same c_law_same k_law_same
    m_law_same := PySem.W.mg_of X G a_law_same
    a_law_is_delayed := f_law_is_delayed
    d_law_is_delayed := _
    F_law_is_delayed := fun_mk (st := s_law_is_delayed) l_law_is_delayed c_law_is_delayed k_law_is_delayed
    m_law_is_delayed := PySem.W.mg_of X G a_law_is_delayed
    a_law_are_larger := f_law_are_larger
    d_law_are_larger := _
    F_law_are_larger := fun_mk (st := s_law_are_larger) l_law_are_larger c_law_are_larger k_law_are_larger
    m_law_are_larger := PySem.W.mg_of X G a_law_are_larger
    alaw := fa
    dlaw := _
    Flaw := fun_mk (st := slaw) llaw claw klaw
    mlaw := PySem.W.mg_of X G alaw }
  refine ⟨T.dlaw, fun s v => .of_eq rfl, fun base _ _ => ?_⟩
  exact ok_law T
end NL
open PySem PySem.W PyProof.Rows
set_option maxRecDepth 100000 in
set_option maxHeartbeats 0 in
theorem PySem.Challenge.cw_neverleaves_k93_delayed_arenas_holds : PySem.Challenge.rw_neverleaves_k93_delayed_arenas.Holds := by
  w_on; o_law; k_head; (case hw => w_witness2)
  k_fill
  refine L2.walk_of (l := PySem.Challenge.rw_neverleaves_k93_delayed_arenas) (n := 63) (k := 9) (x := "script") (CX := fun _ => L2.CX0) (sp := fun w => NL.spLaw _) rfl (by decide) rfl ⟨rfl, by decide, by decide⟩ (fun w h Y => PySem.W.kIn_of Y) ?F (fun _ _ a ns hl _ hS => ⟨a, ns, rfl, hS, hl, fun _ => rfl⟩) (fun _ _ _ _ _ h => h)
  case F =>
    intro w mg fa h KX G hmg
    refine' NL.all_mk KX G hmg  ?adelayed_arena ?ldelayed_arena ?cdelayed_arena ?kdelayed_arena ?a_queues ?l_queues ?c_queues ?k_queues ?a_options_of ?l_options_of ?c_options_of ?k_options_of ?a_successors_of ?l_successors_of ?c_successors_of ?k_successors_of ?acheck_arena ?lcheck_arena ?ccheck_arena ?kcheck_arena ?ais_ascending ?lis_ascending ?cis_ascending ?kis_ascending ?a_law_draws ?l_law_draws ?c_law_draws ?k_law_draws ?a_law_take ?l_law_take ?c_law_take ?k_law_take ?a_law_small ?l_law_small ?c_law_small ?k_law_small ?a_law_queues ?l_law_queues ?c_law_queues ?k_law_queues ?a_law_number ?l_law_number ?c_law_number ?k_law_number ?a_law_delayed ?l_law_delayed ?c_law_delayed ?k_law_delayed ?a_law_same ?l_law_same ?c_law_same ?k_law_same ?a_law_is_delayed ?l_law_is_delayed ?c_law_is_delayed ?k_law_is_delayed ?a_law_are_larger ?l_law_are_larger ?c_law_are_larger ?k_law_are_larger ?alaw ?llaw ?claw ?klaw  ?z_bool ?z_divmod ?z_int ?z_isinstance ?z_len ?z_list ?z_max ?z_range ?z_set ?z_sorted ?z_str ?z_tuple
    (case adelayed_arena => k_is); (case ldelayed_arena => k_is); (case cdelayed_arena => k_is); (case kdelayed_arena => k_is)
    (case a_queues => k_is); (case l_queues => k_is); (case c_queues => k_is); (case k_queues => k_is)
    (case a_options_of => k_is); (case l_options_of => k_is); (case c_options_of => k_is); (case k_options_of => k_is)
    (case a_successors_of => k_is); (case l_successors_of => k_is); (case c_successors_of => k_is); (case k_successors_of => k_is)
    (case acheck_arena => k_is); (case lcheck_arena => k_is); (case ccheck_arena => k_is); (case kcheck_arena => k_is)
    (case ais_ascending => k_is); (case lis_ascending => k_is); (case cis_ascending => k_is); (case kis_ascending => k_is)
    (case a_law_draws => k_is); (case l_law_draws => k_is); (case c_law_draws => k_is); (case k_law_draws => k_is)
    (case a_law_take => k_is); (case l_law_take => k_is); (case c_law_take => k_is); (case k_law_take => k_is)
    (case a_law_small => k_is); (case l_law_small => k_is); (case c_law_small => k_is); (case k_law_small => k_is)
    (case a_law_queues => k_is); (case l_law_queues => k_is); (case c_law_queues => k_is); (case k_law_queues => k_is)
    (case a_law_number => k_is); (case l_law_number => k_is); (case c_law_number => k_is); (case k_law_number => k_is)
    (case a_law_delayed => k_is); (case l_law_delayed => k_is); (case c_law_delayed => k_is); (case k_law_delayed => k_is)
    (case a_law_same => k_is); (case l_law_same => k_is); (case c_law_same => k_is); (case k_law_same => k_is)
    (case a_law_is_delayed => k_is); (case l_law_is_delayed => k_is); (case c_law_is_delayed => k_is); (case k_law_is_delayed => k_is)
    (case a_law_are_larger => k_is); (case l_law_are_larger => k_is); (case c_law_are_larger => k_is); (case k_law_are_larger => k_is)
    (case alaw => k_is); (case llaw => k_is); (case claw => k_is); (case klaw => k_is)
    (case z_bool => k_is)
    (case z_divmod => k_is)
    (case z_int => k_is)
    (case z_isinstance => k_is)
    (case z_len => k_is)
    (case z_list => k_is)
    (case z_max => k_is)
    (case z_range => k_is)
    (case z_set => k_is)
    (case z_sorted => k_is)
    (case z_str => k_is)
    (case z_tuple => k_is)
