import PyProof.Rows.All
import Wide.All
import OpenK.AllK
import Wide.FinOn
import HandS.ForExc
import HandS.ForMost
import HandS.TupAny
import HandS.IsInst
import HandS.Codes
import HandS.FStr
import HandS.Zip
import HandS.TupSets
import HandS.SetFor
import HandS.Strs
import HandS.More
import HandS.DictComp
import HandS.Conv
import PyProof.Draws
import HandS.Iter
import HandS.Deep
import HandS.Walk
import HandS.SetKeys
import KE.KxIndex
import PySem.Challenge.RW_neverleaves_k77_known_arenas
set_option Elab.async false
set_option linter.all false
set_option maxRecDepth 100000

namespace NL
open PySem PySem.Spec PyProof.Rows L2
def topS (i : Nat) : Stmt := PySem.Challenge.pw_neverleaves_k77_known_arenas.main.body.getD i (.Pass ⟨0, 0, 0, 0⟩)
abbrev sknown_arena : Stmt := topS 1
abbrev Nknown_arena : List Str := ["arena", "readings", "starts", "sets", "numbers", "number", "known", "known_options", "options", "index", "at", "after", "following", "one", "out"]
abbrev Pknown_arena : List Str := ["arena", "readings", "starts"]
theorem scknown_arena : FnScope Nknown_arena Pknown_arena (defScope sknown_arena) := ⟨rfl, rfl, rfl, by decide +kernel, rfl, by decide +kernel, by decide +kernel⟩
abbrev s_successors_of : Stmt := topS 2
abbrev N_successors_of : List Str := ["arena", "known", "index", "found", "at", "after"]
abbrev P_successors_of : List Str := ["arena", "known", "index"]
theorem sc_successors_of : FnScope N_successors_of P_successors_of (defScope s_successors_of) := ⟨rfl, rfl, rfl, by decide +kernel, rfl, by decide +kernel, by decide +kernel⟩
abbrev s_parted : Stmt := topS 3
abbrev N_parted : List Str := ["positions", "readings", "parts", "at", "reading"]
abbrev P_parted : List Str := ["positions", "readings"]
theorem sc_parted : FnScope N_parted P_parted (defScope s_parted) := ⟨rfl, rfl, rfl, by decide +kernel, rfl, by decide +kernel, by decide +kernel⟩
abbrev scheck_arena : Stmt := topS 8
abbrev Ncheck_arena : List Str := ["arena", "options", "option"]
abbrev Pcheck_arena : List Str := ["arena"]
theorem sccheck_arena : FnScope Ncheck_arena Pcheck_arena (defScope scheck_arena) := ⟨rfl, rfl, rfl, by decide +kernel, rfl, by decide +kernel, by decide +kernel⟩
abbrev sis_ascending : Stmt := topS 9
abbrev Nis_ascending : List Str := ["numbers", "low", "end", "least", "number"]
abbrev Pis_ascending : List Str := ["numbers", "low", "end"]
theorem scis_ascending : FnScope Nis_ascending Pis_ascending (defScope sis_ascending) := ⟨rfl, rfl, rfl, by decide +kernel, rfl, by decide +kernel, by decide +kernel⟩
abbrev s_law_draws : Stmt := topS 11
abbrev N_law_draws : List Str := ["script", "many", "cells", "cell", "rest", "draws", "k", "at", "once"]
abbrev P_law_draws : List Str := ["script", "many"]
theorem sc_law_draws : FnScope N_law_draws P_law_draws (defScope s_law_draws) := ⟨rfl, rfl, rfl, by decide +kernel, rfl, by decide +kernel, by decide +kernel⟩
abbrev s_law_take : Stmt := topS 12
abbrev N_law_take : List Str := ["draws", "many"]
abbrev P_law_take : List Str := ["draws", "many"]
theorem sc_law_take : FnScope N_law_take P_law_take (defScope s_law_take) := ⟨rfl, rfl, rfl, by decide +kernel, rfl, by decide +kernel, by decide +kernel⟩
abbrev s_law_great : Stmt := topS 13
abbrev N_law_great : List Str := ["draws", "size", "a", "b", "c", "bad", "arena", "k", "options"]
abbrev P_law_great : List Str := ["draws"]
theorem sc_law_great : FnScope N_law_great P_law_great (defScope s_law_great) := ⟨rfl, rfl, rfl, by decide +kernel, rfl, by decide +kernel, by decide +kernel⟩
abbrev s_law_arena : Stmt := topS 14
abbrev N_law_arena : List Str := ["draws", "most", "shape", "rare", "menu", "count", "arena", "k", "options", "j", "found", "i", "drawn", "successor", "at", "more"]
abbrev P_law_arena : List Str := ["draws", "most"]
theorem sc_law_arena : FnScope N_law_arena P_law_arena (defScope s_law_arena) := ⟨rfl, rfl, rfl, by decide +kernel, rfl, by decide +kernel, by decide +kernel⟩
abbrev s_law_some : Stmt := topS 15
abbrev N_law_some : List Str := ["draws", "arena", "share", "step", "first", "k"]
abbrev P_law_some : List Str := ["draws", "arena", "share"]
theorem sc_law_some : FnScope N_law_some P_law_some (defScope s_law_some) := ⟨rfl, rfl, rfl, by decide +kernel, rfl, by decide +kernel, by decide +kernel⟩
abbrev s_law_readings : Stmt := topS 16
abbrev N_law_readings : List Str := ["script", "draws", "arena", "kind", "first", "step", "many", "found", "k", "number"]
abbrev P_law_readings : List Str := ["script", "draws", "arena"]
theorem sc_law_readings : FnScope N_law_readings P_law_readings (defScope s_law_readings) := ⟨rfl, rfl, rfl, by decide +kernel, rfl, by decide +kernel, by decide +kernel⟩
abbrev s_law_parted : Stmt := topS 17
abbrev N_law_parted : List Str := ["readings", "positions", "found", "reading", "at"]
abbrev P_law_parted : List Str := ["readings", "positions"]
theorem sc_law_parted : FnScope N_law_parted P_law_parted (defScope s_law_parted) := ⟨rfl, rfl, rfl, by decide +kernel, rfl, by decide +kernel, by decide +kernel⟩
abbrev s_law_known : Stmt := topS 18
abbrev N_law_known : List Str := ["arena", "readings", "starts", "sets", "found", "number", "options", "index", "at", "after", "numbers", "part"]
abbrev P_law_known : List Str := ["arena", "readings", "starts"]
theorem sc_law_known : FnScope N_law_known P_law_known (defScope s_law_known) := ⟨rfl, rfl, rfl, by decide +kernel, rfl, by decide +kernel, by decide +kernel⟩
abbrev s_law_same : Stmt := topS 19
abbrev N_law_same : List Str := ["actual", "due", "k"]
abbrev P_law_same : List Str := ["actual", "due"]
theorem sc_law_same : FnScope N_law_same P_law_same (defScope s_law_same) := ⟨rfl, rfl, rfl, by decide +kernel, rfl, by decide +kernel, by decide +kernel⟩
abbrev slaw : Stmt := topS 20
abbrev Nlaw : List Str := ["script", "draws", "arena", "starts", "rows", "k", "readings", "actual"]
abbrev Plaw : List Str := ["script"]
theorem sclaw : FnScope Nlaw Plaw (defScope slaw) := ⟨rfl, rfl, rfl, by decide +kernel, rfl, by decide +kernel, by decide +kernel⟩
def KT (K : PySem.W.Frag) (a : Addr) (ys : List V) : Prop := ∃ o its n, List.lookup a K = some o ∧ o.cls = .type "tuple" ∧ o.data = .seq its n ∧ its.size ≤ sizeLine ∧ L2.Vals ys its.toList
theorem kt_mk {K : PySem.W.Frag} {a : Addr} {ys : List V} {o : Obj} {its : Array Value} {n : Nat} (h1 : List.lookup a K = some o) (h2 : o.cls = .type "tuple") (h3 : o.data = .seq its n) (h4 : its.size ≤ sizeLine) (h5 : L2.Vals ys its.toList) : KT K a ys := ⟨o, its, n, h1, h2, h3, h4, h5⟩
set_option genInjectivity false in
set_option genSizeOfSpec false in
structure Txt (K : PySem.W.Frag) (mg : Str → Option Value) where
  z_bool : mg "bool" = none
  z_enumerate : mg "enumerate" = none
  z_int : mg "int" = none
  z_isinstance : mg "isinstance" = none
  z_len : mg "len" = none
  z_list : mg "list" = none
  z_min : mg "min" = none
  z_range : mg "range" = none
  z_set : mg "set" = none
  z_sorted : mg "sorted" = none
  z_str : mg "str" = none
  z_tuple : mg "tuple" = none
  aknown_arena : Addr
  dknown_arena : FuncData
  Fknown_arena : Fun K "known_arena" "known_arena" sknown_arena aknown_arena dknown_arena
  mknown_arena : mg "known_arena" = some (.ref aknown_arena)
  a_successors_of : Addr
  d_successors_of : FuncData
  F_successors_of : Fun K "_successors_of" "_successors_of" s_successors_of a_successors_of d_successors_of
  m_successors_of : mg "_successors_of" = some (.ref a_successors_of)
  a_parted : Addr
  d_parted : FuncData
  F_parted : Fun K "_parted" "_parted" s_parted a_parted d_parted
  m_parted : mg "_parted" = some (.ref a_parted)
  acheck_arena : Addr
  dcheck_arena : FuncData
  Fcheck_arena : Fun K "check_arena" "check_arena" scheck_arena acheck_arena dcheck_arena
  mcheck_arena : mg "check_arena" = some (.ref acheck_arena)
  ais_ascending : Addr
  dis_ascending : FuncData
  Fis_ascending : Fun K "is_ascending" "is_ascending" sis_ascending ais_ascending dis_ascending
  mis_ascending : mg "is_ascending" = some (.ref ais_ascending)
  a_law_draws : Addr
  d_law_draws : FuncData
  F_law_draws : Fun K "_law_draws" "_law_draws" s_law_draws a_law_draws d_law_draws
  m_law_draws : mg "_law_draws" = some (.ref a_law_draws)
  a_law_take : Addr
  d_law_take : FuncData
  F_law_take : Fun K "_law_take" "_law_take" s_law_take a_law_take d_law_take
  m_law_take : mg "_law_take" = some (.ref a_law_take)
  a_law_great : Addr
  d_law_great : FuncData
  F_law_great : Fun K "_law_great" "_law_great" s_law_great a_law_great d_law_great
  m_law_great : mg "_law_great" = some (.ref a_law_great)
  a_law_arena : Addr
  d_law_arena : FuncData
  F_law_arena : Fun K "_law_arena" "_law_arena" s_law_arena a_law_arena d_law_arena
  m_law_arena : mg "_law_arena" = some (.ref a_law_arena)
  a_law_some : Addr
  d_law_some : FuncData
  F_law_some : Fun K "_law_some" "_law_some" s_law_some a_law_some d_law_some
  m_law_some : mg "_law_some" = some (.ref a_law_some)
  a_law_readings : Addr
  d_law_readings : FuncData
  F_law_readings : Fun K "_law_readings" "_law_readings" s_law_readings a_law_readings d_law_readings
  m_law_readings : mg "_law_readings" = some (.ref a_law_readings)
  a_law_parted : Addr
  d_law_parted : FuncData
  F_law_parted : Fun K "_law_parted" "_law_parted" s_law_parted a_law_parted d_law_parted
  m_law_parted : mg "_law_parted" = some (.ref a_law_parted)
  a_law_known : Addr
  d_law_known : FuncData
  F_law_known : Fun K "_law_known" "_law_known" s_law_known a_law_known d_law_known
  m_law_known : mg "_law_known" = some (.ref a_law_known)
  a_law_same : Addr
  d_law_same : FuncData
  F_law_same : Fun K "_law_same" "_law_same" s_law_same a_law_same d_law_same
  m_law_same : mg "_law_same" = some (.ref a_law_same)
  alaw : Addr
  dlaw : FuncData
  Flaw : Fun K "law" "law" slaw alaw dlaw
  mlaw : mg "law" = some (.ref alaw)
theorem Txt.bknown_arena {K : PySem.W.Frag} {mg : Str → Option Value} (T : Txt K mg) : Binds K T.dknown_arena Pknown_arena [] := T.Fknown_arena.binds fun _ _ _ _ _ _ us hl => match us, hl with | [_, _, _], _ => rfl
theorem Txt.b_successors_of {K : PySem.W.Frag} {mg : Str → Option Value} (T : Txt K mg) : Binds K T.d_successors_of P_successors_of [] := T.F_successors_of.binds fun _ _ _ _ _ _ us hl => match us, hl with | [_, _, _], _ => rfl
theorem Txt.b_parted {K : PySem.W.Frag} {mg : Str → Option Value} (T : Txt K mg) : Binds K T.d_parted P_parted [] := T.F_parted.binds fun _ _ _ _ _ _ us hl => match us, hl with | [_, _], _ => rfl
theorem Txt.bcheck_arena {K : PySem.W.Frag} {mg : Str → Option Value} (T : Txt K mg) : Binds K T.dcheck_arena Pcheck_arena [] := T.Fcheck_arena.binds fun _ _ _ _ _ _ us hl => match us, hl with | [_], _ => rfl
theorem Txt.bis_ascending {K : PySem.W.Frag} {mg : Str → Option Value} (T : Txt K mg) : Binds K T.dis_ascending Pis_ascending [] := T.Fis_ascending.binds fun _ _ _ _ _ _ us hl => match us, hl with | [_, _, _], _ => rfl
theorem Txt.b_law_draws {K : PySem.W.Frag} {mg : Str → Option Value} (T : Txt K mg) : Binds K T.d_law_draws P_law_draws [] := T.F_law_draws.binds fun _ _ _ _ _ _ us hl => match us, hl with | [_, _], _ => rfl
theorem Txt.b_law_take {K : PySem.W.Frag} {mg : Str → Option Value} (T : Txt K mg) : Binds K T.d_law_take P_law_take [] := T.F_law_take.binds fun _ _ _ _ _ _ us hl => match us, hl with | [_, _], _ => rfl
theorem Txt.b_law_great {K : PySem.W.Frag} {mg : Str → Option Value} (T : Txt K mg) : Binds K T.d_law_great P_law_great [] := T.F_law_great.binds fun _ _ _ _ _ _ us hl => match us, hl with | [_], _ => rfl
theorem Txt.b_law_arena {K : PySem.W.Frag} {mg : Str → Option Value} (T : Txt K mg) : Binds K T.d_law_arena P_law_arena [] := T.F_law_arena.binds fun _ _ _ _ _ _ us hl => match us, hl with | [_, _], _ => rfl
theorem Txt.b_law_some {K : PySem.W.Frag} {mg : Str → Option Value} (T : Txt K mg) : Binds K T.d_law_some P_law_some [] := T.F_law_some.binds fun _ _ _ _ _ _ us hl => match us, hl with | [_, _, _], _ => rfl
theorem Txt.b_law_readings {K : PySem.W.Frag} {mg : Str → Option Value} (T : Txt K mg) : Binds K T.d_law_readings P_law_readings [] := T.F_law_readings.binds fun _ _ _ _ _ _ us hl => match us, hl with | [_, _, _], _ => rfl
theorem Txt.b_law_parted {K : PySem.W.Frag} {mg : Str → Option Value} (T : Txt K mg) : Binds K T.d_law_parted P_law_parted [] := T.F_law_parted.binds fun _ _ _ _ _ _ us hl => match us, hl with | [_, _], _ => rfl
theorem Txt.b_law_known {K : PySem.W.Frag} {mg : Str → Option Value} (T : Txt K mg) : Binds K T.d_law_known P_law_known [] := T.F_law_known.binds fun _ _ _ _ _ _ us hl => match us, hl with | [_, _, _], _ => rfl
theorem Txt.b_law_same {K : PySem.W.Frag} {mg : Str → Option Value} (T : Txt K mg) : Binds K T.d_law_same P_law_same [] := T.F_law_same.binds fun _ _ _ _ _ _ us hl => match us, hl with | [_, _], _ => rfl
theorem Txt.blaw {K : PySem.W.Frag} {mg : Str → Option Value} (T : Txt K mg) : Binds K T.dlaw Plaw [] := T.Flaw.binds fun _ _ _ _ _ _ us hl => match us, hl with | [_], _ => rfl
end NL

namespace NL
open PySem PySem.Spec PyProof.Rows L2

/-! ### frames: what stays while the list of draws at d is used up -/
structure Go (d : Addr) (H H' : Hp) : Prop where
  fr : ∀ b o, b ≠ d → H b = some o → H' b = some o
  dr : ∃ ns : List Int, H' d = some (.lst (ns.map V.int))
abbrev Dr (H : Hp) (d : Addr) : Prop := ∃ ns : List Int, H d = some (.lst (ns.map V.int))
theorem Go.refl {d : Addr} {H : Hp} (h : Dr H d) : Go d H H := ⟨fun _ _ _ e => e, h⟩
theorem Go.trans {d : Addr} {H H1 H2 : Hp} (a : Go d H H1) (b : Go d H1 H2) : Go d H H2 := ⟨fun c o n e => b.fr c o n (a.fr c o n e), b.dr⟩
theorem Go.new {d p : Addr} {H : Hp} {o : HO} (h : Dr H d) (hp : H p = none) : Go d H (upd H p o) := by
  obtain ⟨ns, e⟩ := h
  have n : d ≠ p := ne_of_none e hp
  exact ⟨fun b u _ q => by rw [upd_ne (ne_of_none q hp)]; exact q, ⟨ns, by rw [upd_ne n]; exact e⟩⟩
theorem Go.put {d : Addr} {H : Hp} (ns : List Int) : Go d H (upd H d (.lst (ns.map V.int))) := ⟨fun b u n q => by rw [upd_ne n]; exact q, ⟨ns, upd_same⟩⟩
theorem Go.same {d : Addr} {H H' : Hp} (h : Dr H d) (s : Same H H') : Go d H H' := ⟨fun b o _ e => s b o e, by obtain ⟨ns, e⟩ := h; exact ⟨ns, s _ _ e⟩⟩
theorem Go.tup {d a : Addr} {H H' : Hp} {xs : List V} (g : Go d H H') (h : Dr H d) (e : H a = some (.tup xs)) : H' a = some (.tup xs) := by
  refine g.fr a _ ?_ e
  rintro rfl
  obtain ⟨ns, q⟩ := h
  rw [e] at q; cases q
theorem same_new {H : Hp} {p : Addr} (h : H p = none) (o : HO) : Same H (upd H p o) := fun b u q => by rw [upd_ne (ne_of_none q h)]; exact q
/-- all tuples stay -/
def Tp (H H' : Hp) : Prop := ∀ a xs, H a = some (.tup xs) → H' a = some (.tup xs)
theorem Go.tp {d : Addr} {H H' : Hp} (g : Go d H H') (h : Dr H d) : Tp H H' := fun _ _ e => g.tup h e
theorem Tp.same {H H' : Hp} (s : Same H H') : Tp H H' := fun _ _ e => s _ _ e
theorem Tp.trans {H H1 H2 : Hp} (a : Tp H H1) (b : Tp H1 H2) : Tp H H2 := fun x y e => b x y (a x y e)
theorem Tp.refl {H : Hp} : Tp H H := fun _ _ e => e
/-- a list that stays readable whatever is drawn at d -/
def Keep (K : PySem.W.Frag) (d : Addr) (H : Hp) (a : Addr) (xs : List V) : Prop := ∀ H', (∀ b o, b ≠ d → H b = some o → H' b = some o) → SqL K H' a xs
theorem Keep.now {K : PySem.W.Frag} {d a : Addr} {H : Hp} {xs : List V} (k : Keep K d H a xs) : SqL K H a xs := k H fun _ _ _ e => e
theorem Keep.go {K : PySem.W.Frag} {d a : Addr} {H H' : Hp} {xs : List V} (k : Keep K d H a xs) (g : Go d H H') : Keep K d H' a xs := fun H2 f => k H2 fun b o n e => f b o n (g.fr b o n e)
theorem Keep.of {K : PySem.W.Frag} {d a : Addr} {H : Hp} {xs : List V} (n : a ≠ d) (h : H a = some (.lst xs)) : Keep K d H a xs := fun H' f => .inl (.inl (f a _ n h))
/-- what was read ahead of the draws' list stays -/
theorem Keep.old {K : PySem.W.Frag} {d a : Addr} {H0 H : Hp} {xs : List V} (h : SqL K H0 a xs) (hd : H0 d = none) (f : ∀ b o, H0 b = some o → H b = some o) : Keep K d H a xs := fun H' g => by
  rcases h with (h | ⟨o, h⟩) | h
  · exact .inl (.inl (g a _ (ne_of_none h hd) (f _ _ h)))
  · exact .inl (.inr ⟨o, g a _ (ne_of_none h hd) (f _ _ h)⟩)
  · exact .inr h

/-! ### rules whose written part is named (in a comprehension) -/
theorem ix_tupK {X : Cx} {K : PySem.W.Frag} (h : X.K = K) : IxR X (rIxT K) := by subst h; exact ix_tup
theorem ix_listK {X : Cx} {K : PySem.W.Frag} (h : X.K = K) : IxR X (rIxL K) := by subst h; exact ix_list
def rTupOf (K : PySem.W.Frag) : List V → Hp → VK → Prop := fun xs H Q => ∃ p ys, xs = [.ref p] ∧ ((SqL K H p ys ∧ ∀ l, H l = none → Q (.ref l) (upd H l (.tup ys))) ∨ (SqT K H p ys ∧ Q (.ref p) H))
theorem call_tuple_ofK {X : Cx} {K : PySem.W.Frag} (h : X.K = K) : CallR X (.type "tuple") (rTupOf K) := by subst h; exact call_tuple_of
/-! ### texts and words -/
/-- signs a to z alone -/
def Wd (z : Str) : Prop := ∀ c ∈ z.cps.toList, 97 ≤ c ∧ c ≤ 122
instance (z : Str) : Decidable (Wd z) := by unfold Wd; infer_instance
def res : List Str := ["true", "false", "add", "sub", "mul", "div", "mod", "min", "max", "abs", "if", "less", "equal", "not", "all", "any"]
theorem app_list (a b : Str) : (a ++ b).cps.toList = a.cps.toList ++ b.cps.toList := by
  show (a.cps ++ b.cps).toList = _
  simp
theorem len_list (a : Str) : a.length = a.cps.toList.length := by
  show a.cps.size = _
  simp
theorem len_app (a b : Str) : (a ++ b).length = a.length + b.length := by
  rw [len_list, app_list, List.length_append, ← len_list, ← len_list]
theorem str_ext {a b : Str} (h : a.cps.toList = b.cps.toList) : a = b := by
  cases a with | mk x => cases b with | mk y =>
  have : x = y := Array.toList_inj.mp h
  rw [this]
theorem Wd.app {a b : Str} (ha : Wd a) (hb : Wd b) : Wd (a ++ b) := fun c hc => by
  rw [app_list] at hc
  rcases List.mem_append.mp hc with h | h
  · exact ha c h
  · exact hb c h
structure Nam (z : Str) : Prop where
  wd : Wd z
  len : 0 < z.length ∧ z.length ≤ 200
  nr : z ∉ res
structure Nm (z : Str) : Prop where
  wd : Wd z
  len : 0 < z.length ∧ z.length ≤ 150

/-! ### lists at an index -/
theorem atI_mem {α : Type} {xs : List α} {i : Int} (h0 : 0 ≤ i) (h1 : i < xs.length) : ∃ v, atI xs i = some v ∧ v ∈ xs := by
  have hk : i.toNat < xs.length := by omega
  have ek : i = ((i.toNat : Nat) : Int) := by omega
  have q : atI xs ((i.toNat : Nat) : Int) = some xs[i.toNat] := atI_nat (List.getElem?_eq_getElem hk)
  rw [← ek] at q
  exact ⟨_, q, List.getElem_mem hk⟩
theorem atI_map {α β : Type} {f : α → β} {xs : List α} {i : Int} (h0 : 0 ≤ i) (h1 : i < xs.length) : ∃ v, atI (xs.map f) i = some (f v) ∧ v ∈ xs := by
  obtain ⟨v, h, m⟩ := atI_mem (xs := xs.map f) h0 (by rw [List.length_map]; exact h1)
  obtain ⟨u, hu, rfl⟩ := List.mem_map.mp m
  exact ⟨u, h, hu⟩
theorem sqd {K : PySem.W.Frag} {H : Hp} {a : Addr} {xs : List V} (h : H a = some (.lst xs)) : SqL K H a xs := .inl (.inl h)
theorem sqt {K : PySem.W.Frag} {H : Hp} {a : Addr} {xs : List V} (h : H a = some (.tup xs)) : SqT K H a xs := .inl (.inl h)
theorem int_eq {i j : Int} (h : decide (V.int i = V.int j) = true) : i = j := V.int.inj (of_decide_eq_true h)
theorem int_ne {i j : Int} (h : ¬ decide (V.int i = V.int j) = true) : i ≠ j := fun e => h (decide_eq_true (by rw [e]))
section
variable {P : Program} {w : World} {K : PySem.W.Frag} {mg : Str → Option Value} {base : Heap}
/-! ### _law_take -/
def spTake : Sp := fun vs H Q _ => ∃ (d : Addr) (m : Int), vs = [.ref d, .int m] ∧ Dr H d ∧ 0 < m ∧ ∀ r H', Go d H H' → 0 ≤ r → r < m → Q (.int r) H'
theorem ok_law_take (T : Txt K mg) : FnOk P w K mg base CX0 1 T.a_law_take T.d_law_take P_law_take spTake := by
  refine T.F_law_take.ok sc_law_take (fun vs H Q E h => ?_) (fun cdv A outer s H vs Q E hr h => ?_)
  · obtain ⟨d, m, rfl, _⟩ := h
    rfl
  obtain ⟨d, m, rfl, hD, hm, q⟩ := h
  refine ⟨_, (pss_cons (ps_if (pt_cmpR op_eq (pe_callB call_len_seq (by rfl) T.z_len PySem.boot_len (pa_cons (pv 0) pa_nil)) pe_int (nomark _))
    (pss_one (ps_ret pe_int))
    pss_nil)
    (pss_one (ps_ret (pe_op op_mod (pe_callTy call_int1 (by rfl) T.z_int (by decide +kernel) (pa_cons (pe_bm0 PySem.F.plainAttrs_list PySem.F.slot_list_pop PySem.F.type_list_pop mt_pop (pv 0)) pa_nil)) (pv 1))))), ?_⟩
  obtain ⟨ns, hd⟩ := hD
  refine ⟨_, rfl, _, _, rfl, .inl (sqd hd), rfl, _, rfl, ?_⟩
  refine ite2 (fun c => ?_) (fun c => ?_)
  · exact q 0 H (Go.refl ⟨ns, hd⟩) (Int.le_refl 0) hm
  · have hn := int_ne c
    rw [List.length_map] at hn
    have hz : ns ≠ [] := by
      rintro rfl
      exact hn rfl
    have hl : 0 < ns.length := List.length_pos_iff.mpr hz
    have he : (ns.map V.int)[(ns.map V.int).length - 1]? = some (.int ns[ns.length - 1]) := by
      rw [List.length_map, List.getElem?_map, List.getElem?_eq_getElem (by omega)]
      rfl
    refine ⟨_, rfl, .inl ⟨rfl, _, sqd hd⟩, _, _, _, rfl, rfl, hd, he, .inl ⟨_, rfl, ?_⟩⟩
    refine ⟨_, rfl, _, _, rfl, rfl, hm, ?_⟩
    refine q _ _ ?_ (Int.emod_nonneg _ (by omega)) (Int.emod_lt_of_pos _ hm)
    rw [← List.map_dropLast]
    exact Go.put _
end
end NL

namespace NL
open PySem PySem.Spec PyProof.Rows L2
theorem yes_if {σ : L2.St} {H : Hp} {a n : Hp → Prop} (h : a H) : tYes σ H (fun b H3 => if b = true then a H3 else n H3) := by
  show (if true = true then a H else n H)
  rw [if_pos rfl]
  exact h
/-- one reading for two ways -/
theorem cutP {B C : Prop} (f : B → C) (b : B) : C := f b
theorem ifT {c : Bool} {A B : Prop} (h : c = true) (a : A) : if c = true then A else B := by
  rw [if_pos h]; exact a
theorem ifF {c : Bool} {A B : Prop} (h : c = false) (b : B) : if c = true then A else B := by
  rw [if_neg (by rw [h]; exact Bool.false_ne_true)]; exact b
theorem atI0 {α : Type} {x : α} {r : List α} : atI (x :: r) 0 = some x := atI_nat (j := 0) rfl
theorem atI1 {α : Type} {x y : α} {r : List α} : atI (x :: y :: r) 1 = some y := atI_nat (j := 1) rfl
theorem boolE {Q : VK} {b b' : Bool} {H : Hp} (h : b = b') (q : Q (.bl b') H) : Q (.bl b) H := by rw [h]; exact q
theorem big {n : Nat} (h : n ≤ 1000000) : n ≤ sizeLine := Nat.le_trans h (by decide)
theorem big' {n : Nat} (h : n ≤ 1000000) : n < sizeLine := Nat.lt_of_le_of_lt h (by decide)
theorem int_in {x : Int} {l : List Int} : inV (.int x) (l.map V.int) = decide (x ∈ l) := by
  unfold inV
  rw [List.any_map]
  induction l with
  | nil => rfl
  | cons a r ih =>
    rw [List.any_cons, ih]
    show (eqV (.int a) (.int x) || _) = _
    have e : eqV (.int a) (.int x) = decide (x = a) := by
      show (a == x) = _
      rw [Bool.beq_eq_decide_eq]
      exact decide_eq_decide.mpr ⟨fun h => h.symm, fun h => h.symm⟩
    rw [e, ← Bool.decide_or]
    exact decide_eq_decide.mpr List.mem_cons.symm
theorem flat_ints' (l : List Int) : (l.map V.int).all flatV = true := by
  induction l with
  | nil => rfl
  | cons a r ih => rw [List.map_cons, List.all_cons, ih]; rfl
theorem notIn_int {x : Int} {l : List Int} : (if true = true then !inV (V.int x) (l.map V.int) else inV (V.int x) (l.map V.int)) = !decide (x ∈ l) := by
  rw [if_pos rfl, int_in]
def rLenK (K : PySem.W.Frag) : List V → Hp → VK → Prop := fun xs H Q => ∃ p ys, xs = [.ref p] ∧ (SqL K H p ys ∨ SqT K H p ys) ∧ Q (.int (ys.length : Nat)) H
theorem call_len_seqK {X : Cx} {K : PySem.W.Frag} (h : X.K = K) : CallR X (.builtin "len") (rLenK K) := by
  subst h
  exact call_len_seq
end NL

namespace NL
open PySem PySem.Spec PyProof.Rows L2
theorem ixN_in {n : Nat} {k : Int} (h0 : 0 ≤ k) (h1 : k < n) : ixN n k = some k.toNat := by
  unfold ixN
  rw [if_pos h0, if_pos h1]
/-- a change at what was not there before -/
theorem same_put {H H' : Hp} {p : Addr} {o : HO} (s : Same H H') (hp : H p = none) : Same H (upd H' p o) := fun b u e => by
  rw [upd_ne (ne_of_none e hp)]
  exact s b u e
section
variable {P : Program} {w : World} {K : PySem.W.Frag} {mg : Str → Option Value} {base : Heap}
def spDraws (K : PySem.W.Frag) : Sp := fun vs H Q _ => ∃ (a : Addr) (ns : List Int) (m : Int), vs = [.ref a, .int m] ∧ SqL K H a (ns.map V.int) ∧ ns.length ≤ 63 ∧ 0 ≤ m ∧ m ≤ 10000 ∧
  ∀ d H', Same H H' → H d = none → Dr H' d → Q (.ref d) H'
theorem ok_law_draws (T : Txt K mg) : FnOk P w K mg base CX0 1 T.a_law_draws T.d_law_draws P_law_draws (spDraws K) := by
  refine T.F_law_draws.ok sc_law_draws (fun vs H Q E h => ?_) (fun cdv A outer s H vs Q E hr h => ?_)
  · obtain ⟨a, ns, m, rfl, _⟩ := h
    rfl
  obtain ⟨a, ns, m, rfl, hS, hl, m0, m1, q⟩ := h
  refine ⟨_, (pss_cons (ps_setLc (i := 2) (own := [("cell", 3)]) (g := (gName 3)) (tt := tYes) rfl sc_law_draws.nd rfl rfl (sw_true rfl rfl rfl (by decide +kernel)) (pi_list (pv 0)) (blkOk_by (N := N_law_draws) (sc := defScope s_law_draws) (by decide +kernel)) (fun _ _ _ _ _ => (pg_name (i := 3) sc_law_draws.nd rfl (Or.inl rfl))) (fun _ _ _ _ _ => pts_nil) (fun _ _ _ _ _ => (pe_callTy call_int1 (by rfl) T.z_int (by decide +kernel) (pa_cons (pv 3) pa_nil))))
    (C8.pss_cut (ps_if (pt_cmpR op_eq (pe_callB call_len_seq (by rfl) T.z_len PySem.boot_len (pa_cons (pv 2) pa_nil)) pe_int (nomark _))
    (pss_one (ps_expr (pe_bm PySem.F.plainAttrs_list PySem.F.slot_list_append PySem.F.type_list_append mt_append (pv 2) (pa_cons pe_int pa_nil))))
    pss_nil)
    (pss_cons (ps_set (i := 4) sc_law_draws.nd rfl (Or.inl rfl) (pe_callTy call_list_of (by rfl) T.z_list (by decide +kernel) (pa_cons (pv 2) pa_nil)))
    (pss_cons (ps_set (i := 5) sc_law_draws.nd rfl (Or.inl rfl) (pe_lst pa_nil))
    (pss_cons (ps_for  PassesOwn.never rfl (pi_range1 (by rfl) T.z_range (pa_cons (pv 1) pa_nil)) (pg_name (i := 6) sc_law_draws.nd rfl (Or.inl rfl))
    (pss_cons (ps_set (i := 7) sc_law_draws.nd rfl (Or.inl rfl) (pe_op op_mod (pv 6) (pe_callB call_len_seq (by rfl) T.z_len PySem.boot_len (pa_cons (pv 2) pa_nil))))
    (pss_one (ps_if (pt_cmpR op_ge (pe_ix ix_list (pv 2) (pv 7) (fun _ _ => rfl)) (pe_op op_pow pe_int pe_int) (nomark _))
    (pss_cons (ps_expr (pe_bm PySem.F.plainAttrs_list PySem.F.slot_list_append PySem.F.type_list_append mt_append (pv 5) (pa_cons (pe_op op_mod (pe_callTy call_int1 (by rfl) T.z_int (by decide +kernel) (pa_cons (pe_ix ix_list (pv 4) (pv 7) (fun _ _ => rfl)) pa_nil)) pe_int) pa_nil)))
    (pss_one (ps_asg (pe_op op_fdiv (pe_ix ix_list (pv 4) (pv 7) (fun _ _ => rfl)) pe_int) (pg_sub (pv 4) (pv 7) set_list))))
    (pss_cons (ps_set (i := 8) sc_law_draws.nd rfl (Or.inl rfl) (pe_op op_mod (pe_callTy call_int1 (by rfl) T.z_int (by decide +kernel) (pa_cons (pe_op op_add (pe_op op_add (pe_op op_mul (pe_ix ix_list (pv 2) (pv 7) (fun _ _ => rfl)) pe_int) (pe_op op_mul (pv 6) pe_int)) pe_int) pa_nil)) pe_int))
    (pss_one (ps_expr (pe_bm PySem.F.plainAttrs_list PySem.F.slot_list_append PySem.F.type_list_append mt_append (pv 5) (pa_cons (pe_op op_mod (pe_callTy call_int1 (by rfl) T.z_int (by decide +kernel) (pa_cons (pe_op op_add (pe_op op_add (pe_op op_mul (pv 8) (pv 8)) (pe_op op_mul pe_int (pv 8))) (pv 6)) pa_nil)) pe_int) pa_nil)))))))))
    (pss_cons (ps_expr (pe_bm0 PySem.F.plainAttrs_list PySem.F.slot_list_reverse PySem.F.type_list_reverse mt_reverse (pv 5)))
    (pss_one (ps_ret (pv 5))))))))), ?_⟩
  -- cells
  refine ⟨_, rfl, a, rfl, ⟨_, hS⟩, fun c hc => ?_⟩
  refine lc_list (K := K) (a := a) (xs := ns.map V.int) (fun (j : Nat) (H' : Hp) => Same H H' ∧ H' c = some (.lst ((ns.take j).map V.int))) ?_ ?_ ?_ ?_
  · exact ⟨same_new hc _, by rw [upd_same, List.take_zero]; rfl⟩
  · rintro i H' _ ⟨s1, _⟩
    exact s1.seq hS
  · rintro i x H' hx ⟨s1, e1⟩
    rw [List.getElem?_map] at hx
    cases hn : ns[i]? with
    | none => rw [hn] at hx; cases hx
    | some n =>
      rw [hn] at hx
      obtain rfl : V.int n = x := Option.some.inj hx
      refine ⟨rfl, yes_if ?_⟩
      refine ⟨_, rfl, .inl ⟨n, rfl, _, e1, ?_, same_put s1 hc, ?_⟩⟩
      · rw [List.length_map, List.length_take]
        exact big' (by omega)
      · rw [upd_same, List.take_add_one, hn, List.map_append]
        rfl
  · rintro H1 ⟨s1, e1⟩
    rw [List.length_map, List.take_length] at e1
    -- at least one cell
    refine ⟨fun σ H2 => ∃ cs : List Int, cs ≠ [] ∧ cs.length ≤ 63 ∧ σ = [some (.ref a), some (.int m), some (.ref c), none, none, none, none, none, none] ∧ Same H H2 ∧ H2 c = some (.lst (cs.map V.int)), ?_, ?_⟩
    · refine ⟨_, rfl, _, _, rfl, .inl (sqd e1), rfl, _, rfl, ?_⟩
      refine ite2 (fun z => ?_) (fun z => ?_)
      · refine ⟨_, rfl, .inl ⟨rfl, _, sqd e1⟩, c, _, _, rfl, rfl, e1, ?_, ?_⟩
        · rw [List.length_map]
          exact big' (by omega)
        · have hz := int_eq z
          rw [List.length_map] at hz
          have : ns = [] := List.length_eq_zero_iff.mp (by omega)
          subst this
          exact ⟨[0], by simp, by decide, rfl, same_put s1 hc, upd_same⟩
      · have hz := int_ne z
        rw [List.length_map] at hz
        refine ⟨ns, ?_, hl, rfl, s1, e1⟩
        rintro rfl
        exact hz rfl
    · rintro σ H2 ⟨cs, hcs, hcl, rfl, s2, e2⟩
      have hpos : 0 < cs.length := List.length_pos_iff.mpr hcs
      -- rest, draws
      refine ⟨_, rfl, _, _, rfl, .inl (sqd e2), fun r hr2 => ?_⟩
      have ncr : c ≠ r := ne_of_none e2 hr2
      refine ⟨(Nat.le_of_ble_eq_true rfl), fun d hd => ?_⟩
      have ncd : c ≠ d := ne_of_none (by rw [upd_ne ncr]; exact e2) hd
      have nrd : r ≠ d := ne_of_none upd_same hd
      have hHr : H r = none := s2.free hr2
      have hHd : H d = none := (s2.trans (same_new hr2 _)).free hd
      refine ⟨_, rfl, m, rfl, by omega, by omega, for_range (lo := 0) (n := m.toNat) (fun (j : Nat) (σ : L2.St) (H' : Hp) => ∃ (rs ds : List Int) (y1 y2 y3 : Option V), σ = [some (.ref a), some (.int m), some (.ref c), none, some (.ref r), some (.ref d), y1, y2, y3] ∧ Same H H' ∧ H' c = some (.lst (cs.map V.int)) ∧ H' r = some (.lst (rs.map V.int)) ∧ rs.length = cs.length ∧ H' d = some (.lst (ds.map V.int)) ∧ ds.length ≤ j) ?_ ?_ ?_⟩
      · refine ⟨cs, [], none, none, none, rfl, (s2.trans (same_new hr2 _)).trans (same_new hd _), ?_, ?_, rfl, upd_same, Nat.le_refl _⟩
        · rw [upd_ne ncd, upd_ne ncr]; exact e2
        · rw [upd_ne nrd]; exact upd_same
      · rintro j σ H' hj ⟨rs, ds, y1, y2, y3, rfl, s3, ec, er, hrl, ed, hdl⟩
        have b0 := Int.emod_nonneg ((0 : Int) + (j : Int)) (show (((cs.map V.int).length : Nat) : Int) ≠ 0 by rw [List.length_map]; omega)
        have b1 : (((0 : Int) + (j : Int)) % (((cs.map V.int).length : Nat) : Int)) < (cs.length : Int) := by
          have h := Int.emod_lt_of_pos ((0 : Int) + (j : Int)) (show 0 < (((cs.map V.int).length : Nat) : Int) by rw [List.length_map]; omega)
          rw [List.length_map] at h ⊢
          exact h
        refine ⟨_, rfl, _, rfl, _, _, rfl, .inl (sqd ec), _, _, rfl, rfl, (by show 0 < (((cs.map V.int).length : Nat) : Int); rw [List.length_map]; omega), ?_⟩
        obtain ⟨cv, hcv, _⟩ := atI_map (f := V.int) (xs := cs) b0 b1
        obtain ⟨rv, hrv, _⟩ := atI_map (f := V.int) (xs := rs) b0 (by omega)
        refine ⟨_, rfl, _, rfl, _, _, _, _, rfl, rfl, sqd ec, hcv, _, _, rfl, rfl, ⟨by decide, by decide, by decide⟩, _, _, rfl, rfl, _, rfl, ?_⟩
        refine ite2 (fun z => ?_) (fun z => ?_)
        · refine ⟨_, rfl, .inl ⟨rfl, _, sqd ed⟩, _, rfl, _, rfl, _, _, _, _, rfl, rfl, sqd er, hrv, .inl ⟨_, rfl, _, _, rfl, rfl, (by show (0 : Int) < 1000; decide), d, _, _, rfl, rfl, ed, ?_, ?_⟩⟩
          · rw [List.length_map]
            exact big' (by omega)
          · have er2 : ∀ o, (upd H' d o) r = some (.lst (rs.map V.int)) := fun o => by rw [upd_ne nrd]; exact er
            refine ⟨_, rfl, _, rfl, _, _, _, _, rfl, rfl, sqd (er2 _), hrv, _, _, rfl, rfl, ⟨by decide, by decide⟩, _, rfl, _, rfl, r, _, _, _, rfl, rfl, er2 _, ixN_in b0 (by have h : (rs.map V.int).length = rs.length := List.length_map _; omega), ?_⟩
            refine ⟨rs.set (((0 : Int) + (j : Int)) % (((cs.map V.int).length : Nat) : Int)).toNat (rv / 1000), ds ++ [rv % 1000], _, _, _, rfl, same_put (same_put s3 hHd) hHr, ?_, ?_, ?_, ?_, ?_⟩
            · rw [upd_ne ncr, upd_ne ncd]; exact ec
            · rw [upd_same, List.map_set]
            · rw [List.length_set]; exact hrl
            · rw [upd_ne nrd.symm, upd_same, List.map_append]; rfl
            · rw [List.length_append, List.length_singleton]; omega
        · have o0 := fun z : Int => Int.emod_nonneg z (by decide : (2147483647 : Int) ≠ 0)
          have o1 := fun z : Int => Int.emod_lt_of_pos z (by decide : (0 : Int) < 2147483647)
          refine ⟨_, rfl, _, rfl, _, _, _, _, rfl, rfl, sqd ec, hcv, _, _, rfl, rfl, .inr ⟨by decide, by decide⟩, _, rfl, _, _, rfl, rfl, .inr ⟨by decide, by decide⟩, _, _, rfl, rfl, _, _, rfl, rfl, .inl ⟨_, rfl, _, _, rfl, rfl, (by show (0 : Int) < 2147483647; decide), ?_⟩⟩
          refine ⟨_, rfl, .inl ⟨rfl, _, sqd ed⟩, _, rfl, _, rfl, _, _, rfl, rfl, ?_, ?_⟩
          · left
            have h1 := o0 (cv * 48271 + (0 + (j : Int)) * 69621 + 11)
            have h2 := o1 (cv * 48271 + (0 + (j : Int)) * 69621 + 11)
            constructor
            · show -(2 ^ 64) < _
              omega
            · show _ < 2 ^ 64
              omega
          · refine ⟨_, rfl, _, _, rfl, rfl, .inl ⟨by decide, by decide⟩, _, _, rfl, rfl, _, rfl, _, _, rfl, rfl, .inl ⟨_, rfl, _, _, rfl, rfl, (by show (0 : Int) < 1000003; decide), d, _, _, rfl, rfl, ed, ?_, ?_⟩⟩
            · rw [List.length_map]
              exact big' (by omega)
            · refine ⟨rs, ds ++ [(((cv * 48271 + (0 + (j : Int)) * 69621 + 11) % 2147483647) * ((cv * 48271 + (0 + (j : Int)) * 69621 + 11) % 2147483647) + 3 * ((cv * 48271 + (0 + (j : Int)) * 69621 + 11) % 2147483647) + (0 + (j : Int))) % 1000003], _, _, _, rfl, same_put s3 hHd, ?_, ?_, hrl, ?_, ?_⟩
              · rw [upd_ne ncd]; exact ec
              · rw [upd_ne nrd]; exact er
              · rw [upd_same, List.map_append]; rfl
              · rw [List.length_append, List.length_singleton]; omega
      · rintro σ H' ⟨rs, ds, y1, y2, y3, rfl, s3, ec, er, hrl, ed, hdl⟩
        refine ⟨_, rfl, .inl ⟨rfl, _, sqd ed⟩, d, _, rfl, rfl, ed, ?_⟩
        refine ⟨_, rfl, q d _ (same_put s3 hHd) hHd ⟨ds.reverse, ?_⟩⟩
        rw [upd_same, List.map_reverse]
end
end NL

namespace NL
open PySem PySem.Spec PyProof.Rows L2
/-! ### rows and what stands in them -/
def Each {α : Type} (R : α → V → Prop) (l : List α) (xs : List V) : Prop := xs.length = l.length ∧ ∀ (k : Nat) a x, l[k]? = some a → xs[k]? = some x → R a x
theorem Each.nil {α : Type} {R : α → V → Prop} : Each R [] [] := ⟨rfl, fun k a x h => by simp at h⟩
theorem Each.mono {α : Type} {R S : α → V → Prop} {l : List α} {xs : List V} (h : Each R l xs) (f : ∀ a x, R a x → S a x) : Each S l xs := ⟨h.1, fun k a x e g => f a x (h.2 k a x e g)⟩
theorem Each.cons {α : Type} {R : α → V → Prop} {l : List α} {xs : List V} {a : α} {x : V} (r : R a x) (h : Each R l xs) : Each R (a :: l) (x :: xs) := ⟨by rw [List.length_cons, List.length_cons, h.1], fun k b y e g => by
  cases k with
  | zero => cases e; cases g; exact r
  | succ k => exact h.2 k b y e g⟩
theorem Each.app {α : Type} {R : α → V → Prop} {l m : List α} {xs ys : List V} (h : Each R l xs) (g : Each R m ys) : Each R (l ++ m) (xs ++ ys) := by
  refine ⟨by rw [List.length_append, List.length_append, h.1, g.1], fun k r x e f => ?_⟩
  by_cases hk : k < l.length
  · rw [List.getElem?_append_left hk] at e
    rw [List.getElem?_append_left (by rw [h.1]; exact hk)] at f
    exact h.2 k r x e f
  · rw [List.getElem?_append_right (by omega)] at e
    rw [List.getElem?_append_right (by rw [h.1]; omega), h.1] at f
    exact g.2 _ r x e f
theorem Each.snoc {α : Type} {R : α → V → Prop} {l : List α} {xs : List V} {a : α} {x : V} (h : Each R l xs) (r : R a x) : Each R (l ++ [a]) (xs ++ [x]) := h.app (.cons r .nil)
theorem Each.take {α : Type} {R : α → V → Prop} {l : List α} {xs : List V} (h : Each R l xs) (n : Nat) : Each R (l.take n) (xs.take n) := ⟨by rw [List.length_take, List.length_take, h.1], fun k a x e g => by
  rw [List.getElem?_take] at e g
  split at e
  · rename_i hk
    rw [if_pos hk] at g
    exact h.2 k a x e g
  · cases e⟩
theorem Each.drop {α : Type} {R : α → V → Prop} {l : List α} {xs : List V} (h : Each R l xs) (n : Nat) : Each R (l.drop n) (xs.drop n) := ⟨by rw [List.length_drop, List.length_drop, h.1], fun k a x e g => by
  rw [List.getElem?_drop] at e g
  exact h.2 _ a x e g⟩
theorem Each.set {α : Type} {R : α → V → Prop} {l : List α} {xs : List V} {a : α} {x : V} (h : Each R l xs) (n : Nat) (r : R a x) : Each R (l.set n a) (xs.set n x) := ⟨by rw [List.length_set, List.length_set, h.1], fun k b y e g => by
  rw [List.getElem?_set] at e g
  by_cases hk : n = k
  · rw [if_pos hk] at e g
    by_cases hl : n < l.length
    · rw [if_pos hl] at e
      rw [if_pos (by rw [h.1]; exact hl)] at g
      cases e; cases g; exact r
    · rw [if_neg hl] at e
      cases e
  · rw [if_neg hk] at e g
    exact h.2 k b y e g⟩
theorem Each.at {α : Type} {R : α → V → Prop} {l : List α} {xs : List V} {a : α} {k : Nat} (h : Each R l xs) (e : l[k]? = some a) : ∃ x, xs[k]? = some x ∧ R a x := by
  have hk : k < xs.length := by
    rw [h.1]
    exact (List.getElem?_eq_some_iff.mp e).1
  exact ⟨_, List.getElem?_eq_getElem hk, h.2 k a _ e (List.getElem?_eq_getElem hk)⟩
theorem Each.atI {α : Type} {R : α → V → Prop} {l : List α} {xs : List V} {i : Int} (h : Each R l xs) (h0 : 0 ≤ i) (h1 : i < l.length) : ∃ a x, l[i.toNat]? = some a ∧ atI xs i = some x ∧ R a x := by
  have hk : i.toNat < l.length := by omega
  obtain ⟨x, hx, r⟩ := h.at (List.getElem?_eq_getElem hk)
  have q : L2.atI xs ((i.toNat : Nat) : Int) = some x := atI_nat hx
  rw [show ((i.toNat : Nat) : Int) = i by omega] at q
  exact ⟨_, x, List.getElem?_eq_getElem hk, q, r⟩
/-! ### options, positions, arenas -/
abbrev Opt := List Int
abbrev Pos' := List Opt
abbrev Ar := List Pos'
def OptIn (H : Hp) (o : Opt) (v : V) : Prop := ∃ b, v = .ref b ∧ H b = some (.tup (o.map V.int))
def PosIn (H : Hp) (os : Pos') (v : V) : Prop := ∃ b xs, v = .ref b ∧ H b = some (.tup xs) ∧ Each (OptIn H) os xs
def ArIn (H : Hp) (A : Ar) (v : V) : Prop := ∃ b xs, v = .ref b ∧ H b = some (.tup xs) ∧ Each (PosIn H) A xs
theorem OptIn.tp {H H' : Hp} {o : Opt} {v : V} (t : Tp H H') (h : OptIn H o v) : OptIn H' o v := by
  obtain ⟨b, e, q⟩ := h
  exact ⟨b, e, t _ _ q⟩
theorem PosIn.tp {H H' : Hp} {o : Pos'} {v : V} (t : Tp H H') (h : PosIn H o v) : PosIn H' o v := by
  obtain ⟨b, xs, e, q, r⟩ := h
  exact ⟨b, xs, e, t _ _ q, r.mono fun a x => OptIn.tp t⟩
theorem ArIn.tp {H H' : Hp} {o : Ar} {v : V} (t : Tp H H') (h : ArIn H o v) : ArIn H' o v := by
  obtain ⟨b, xs, e, q, r⟩ := h
  exact ⟨b, xs, e, t _ _ q, r.mono fun a x => PosIn.tp t⟩
/-- an option of an arena with n positions -/
structure OptG (n : Int) (o : Opt) : Prop where
  ne : o ≠ []
  len : o.length ≤ 60
  mem : ∀ s ∈ o, -1 ≤ s ∧ s < n
  asc : o.Pairwise (· < ·)
def PosG (n : Int) (os : Pos') : Prop := os.length ≤ 12 ∧ ∀ o ∈ os, OptG n o
def ArG (A : Ar) : Prop := A.length ≤ 400 ∧ ∀ os ∈ A, PosG A.length os
theorem OptG.one {n s : Int} (h0 : -1 ≤ s) (h1 : s < n) : OptG n [s] := ⟨by simp, by simp, fun t ht => by rw [List.mem_singleton.mp ht]; exact ⟨h0, h1⟩, List.pairwise_singleton _ _⟩
theorem asc_of {l m : List Int} (h : l.Perm m) (hm : m.Nodup) (hp : l.Pairwise (· ≤ ·)) : l.Pairwise (· < ·) := by
  have hn : l.Nodup := h.nodup_iff.mpr hm
  refine (hp.and hn).imp fun {a b} h => ?_
  obtain ⟨h1, h2⟩ := h
  omega
theorem tp_put {H H' : Hp} {p : Addr} {o : List V} {o' : HO} (t : Tp H H') (h : H' p = some (.lst o)) : Tp H (upd H' p o') := fun a xs e => by
  have n : a ≠ p := fun q => by
    have := t a xs e
    rw [q, h] at this
    cases this
  rw [upd_ne n]
  exact t a xs e
theorem Go.put2 {d p : Addr} {H H' : Hp} {o : HO} (g : Go d H H') (hp : H p = none) (n : p ≠ d) : Go d H (upd H' p o) := ⟨fun b u hb e => by
  rw [upd_ne (ne_of_none e hp)]
  exact g.fr b u hb e, by
  obtain ⟨ns, e⟩ := g.dr
  exact ⟨ns, by rw [upd_ne n.symm]; exact e⟩⟩
theorem new_ne {d p : Addr} {H : Hp} (h : Dr H d) (hp : H p = none) : p ≠ d := by
  rintro rfl
  obtain ⟨ns, e⟩ := h
  rw [hp] at e
  cases e
theorem Go.free {d p : Addr} {H H' : Hp} (g : Go d H H') (hp : H' p = none) : H p = none := by
  cases e : H p with
  | none => rfl
  | some o =>
    by_cases hd : p = d
    · obtain ⟨ns, q⟩ := g.dr
      rw [hd, q] at hp
      cases hp
    · rw [g.fr p o hd e] at hp
      cases hp
end NL

set_option maxHeartbeats 4000000
namespace NL
open PySem PySem.Spec PyProof.Rows L2
section
variable {P : Program} {w : World} {A : Around} {E : Value → Shared → Prop} {s : Shared}
set_option maxHeartbeats 3200000 in
theorem call_set_ints {l : Addr} {items : Array Value} (ns : List Int) {Q : Value → Shared → Prop} (hh : A.handled = none) (hl : s.heap.IsList l items) (hit : IntsAre items.toList ns) (hb : ns.length + 1 < scanBound)
    (h : ∀ (h' : Heap) (tk c : Nat), SetR w h' s.heap.objs.size (fun j => decide (j ∈ ns)) c → c ≤ ns.length → (∀ b o, s.heap.get? b = some o → h'.get? b = some o) → Q (.ref s.heap.objs.size) { s with heap := h', toks := tk }) :
    wpAny (model P w) A (call (.type "set") [.ref l]) Q E s := by
  have hisz : items.size = ns.length := by
    have q := IntsAre.length hit
    rw [Array.length_toList] at q
    exact q
  obtain ⟨c, tl, hmro⟩ := F.called_set.mro
  have hmade := F.called_set.made
  have hsub := F.called_set.sub
  refine wpAny_call (codeAny_of_tree ?_)
  show wpAny _ _ (callAny (.type "set") _) _ _ _
  refine wpAny_pure ⟨Code.quiet_builtin _ (by decide +kernel), codeAny_builtin F.entry_type_call ?_⟩
  rw [Around.under_plain (weight_type_call_type "set" [.ref l] []) rfl]
  have h1 := F.called_set.notType
  have h2 := F.called_set.canCreate
  have hct := F.typeCall_set_1 (.ref l)
  repeat (any_goals (first | assumption | wp_step))
  refine codeAny_mono (code_set_led1 (.ref l) (E := E) (Q₁ := fun obj s₁ => obj = .ref s.heap.objs.size ∧ s₁ = { s with heap := s.heap.push { cls := .type "set", dict := none, data := .set #[] 0 (.fresh 0 0 (!w.params.followText "set-order")) } }) ⟨rfl, rfl⟩) fun r s₁ hr => ?_
  cases r with
  | error e => exact hr
  | ok fl =>
    cases fl with
    | ret obj =>
      obtain ⟨rfl, rfl⟩ := hr
      have hS : (s.heap.push { cls := .type "set", dict := none, data := .set #[] 0 (.fresh 0 0 (!w.params.followText "set-order")) }).get? s.heap.objs.size = some { cls := .type "set", dict := none, data := .set #[] 0 (.fresh 0 0 (!w.params.followText "set-order")) } := Heap.get?_push_size _ rfl
      have hT : Shared.TypeIs { s with heap := s.heap.push { cls := .type "set", dict := none, data := .set #[] 0 (.fresh 0 0 (!w.params.followText "set-order")) } } (.ref s.heap.objs.size) "set" := ⟨_, hS, rfl⟩
      have hli := F.called_set.init.lookup
      have hbi := F.called_set.init.bind (.ref s.heap.objs.size)
      repeat (any_goals (first | assumption | wp_step))
      refine codeAny_mono (codeAny_call_builtin (R := wants (fun r s₂ => r = .none ∧ ∃ h' tk c, s₂ = { s with heap := h', toks := tk } ∧ SetR w h' s.heap.objs.size (fun j => decide (j ∈ ns)) c ∧ c ≤ ns.length ∧
          (∀ b o, s.heap.get? b = some o → h'.get? b = some o)) E) F.called_set.init.plain F.entry_set_init (check_set_init_1 hT ?_)) fun r₂ s₂ hr₂ => ?_
      · obtain ⟨ol, hol, hcl, nl, hdl⟩ := hl
        obtain ⟨ocls, odict, odata, oslots⟩ := ol
        simp only at hcl hdl
        subst hcl; subst hdl
        have hol' : (s.heap.push { cls := .type "set", dict := none, data := .set #[] 0 (.fresh 0 0 (!w.params.followText "set-order")) }).get? l = some { cls := .type "list", dict := odict, data := .seq items nl, slots := oslots } := Heap.get?_push_of_some _ hol
        have hsls := F.sub_list_set
        have hslf := F.sub_list_frozenset
        have hne : (Value.type "list" == Value.type "dict") = false := by decide
        have hl1 : (s.heap.push { cls := .type "set", dict := none, data := .set #[] 0 (.fresh 0 0 (!w.params.followText "set-order")) }).IsList l items := ⟨_, hol', rfl, nl, rfl⟩
        unfold Builtin.«set.__init__» noKeywords Builtin.Frozenset.updateFrom
        generalize hPI : pyIter = PI
        wp_walk
        subst hPI
        refine wpAny_pyIter_list hl1 ?_
        refine wpAny_bind (wpAny_runValue ?_)
        have hlS : l < s.heap.objs.size := Heap.lt_size hol
        have hh3 : A.in1.in1.in1.handled = none := by simp [hh]
        have hneI : l ≠ (s.heap.push { cls := .type "set", dict := none, data := .set #[] 0 (.fresh 0 0 (!w.params.followText "set-order")) }).objs.size := by
          rw [Heap.size_push]; exact Nat.ne_of_lt (Nat.lt_succ_of_lt hlS)
        have hSf : s.heap.objs.size ∉ [(s.heap.push { cls := .type "set", dict := none, data := .set #[] 0 (.fresh 0 0 (!w.params.followText "set-order")) }).objs.size, l] := by
          rw [Heap.size_push]; simp only [List.mem_cons, List.mem_singleton, List.not_mem_nil, or_false, not_or]
          exact ⟨Nat.ne_of_lt (Nat.lt_succ_self _), Nat.ne_of_gt hlS⟩
        have hval : ∀ (i : Nat) (v : Value), items[i]? = some v → ∃ k t, ns[i]? = some k ∧ v = .int k t := fun i v hv => by
          obtain ⟨n, t, e1, e2⟩ := IntsAre.at hit i v (by rw [Array.getElem?_toList]; exact hv)
          exact ⟨n, t, e2, e1⟩
        refine set_update_ints ((Walks.list hh3 _ l hneI items).toS) s.heap.objs.size
          hSf ns hisz hb hval (items.size - 0) 0 _ (by omega) (Nat.zero_le _)
          ⟨⟨_, Heap.get?_push_size _ rfl, rfl, rfl⟩, (hl1.push _)⟩ ?hS0 ?hR
        case hS0 =>
          have hget : ((s.heap.push { cls := .type "set", dict := none, data := .set #[] 0 (.fresh 0 0 (!w.params.followText "set-order")) }).push { cls := .type "list_iterator", data := .fields #[.ref l, .int 0 0] }).get? s.heap.objs.size
              = some { cls := .type "set", dict := none, data := .set #[] 0 (.fresh 0 0 (!w.params.followText "set-order")) } := Heap.get?_push_of_some _ hS
          exact ⟨0, Nat.le_refl 0, setR_new_at hget⟩
        case hR =>
          intro s' c' hm hc' hS'
          obtain ⟨h', g2, d', tk', os'⟩ := s'
          have eg : g2 = s.gens := hm.gens
          have ed : d' = s.drawn := hm.drawn
          have eo : os' = s.os := hm.os
          subst eg; subst ed; subst eo
          show wpAny _ _ _ _ _ _
          refine wpAny_pure ?_
          show wpAny _ _ (ret Value.none) _ _ _
          rw [hisz] at hc'
          refine wpAny_pure ⟨rfl, h', tk', c', rfl, hS', hc', fun b o e => ?_⟩
          have hb0 : b < s.heap.objs.size := Heap.lt_size e
          have hb1 : b ≠ s.heap.objs.size := Nat.ne_of_lt hb0
          have hb2 : b ≠ (s.heap.push { cls := .type "set", dict := none, data := .set #[] 0 (.fresh 0 0 (!w.params.followText "set-order")) }).objs.size := by
            rw [Heap.size_push]; exact Nat.ne_of_lt (Nat.lt_succ_of_lt hb0)
          exact hm.heap b o (by simp only [List.mem_cons, List.mem_singleton, List.not_mem_nil, or_false, not_or]; exact ⟨hb1, hb2⟩) (Heap.get?_push_of_some _ (Heap.get?_push_of_some _ e))
      · cases r₂ with
        | error e => exact hr₂
        | ok fl₂ =>
          cases fl₂ with
          | ret r =>
            obtain ⟨rfl, h', tk, c', rfl, hS', hc', hk'⟩ := hr₂
            repeat (any_goals (first | assumption | wp_step))
            exact h _ _ _ hS' hc' hk'
          | _ => exact hr₂.elim
    | _ => exact hr.elim
end
variable {X : Cx}
def rSetOfI (K : PySem.W.Frag) (w : World) : List V → Hp → VK → Prop := fun xs H Q => ∃ (l : Addr) (ns : List Int), xs = [.ref l] ∧ SqL K H l (ns.map V.int) ∧ ns.length < 64 ∧ ∀ a c, H a = none → c ≤ ns.length → Q (.ref a) (upd H a (SetO w a (fun j => decide (j ∈ ns)) c))
theorem cr_setOfI (hc : X.calm = true) : CallR X (.type "set") (rSetOfI X.K X.w) := by
  intro pins s σ H xs us Q I r h
  obtain ⟨l, ks, rfl, hl, hf, q⟩ := h
  rw [Vals.ref1 r]
  obtain ⟨its, rv, pl, hz⟩ := I.list hl
  have hn : H s.heap.objs.size = none := I.hok.fresh (Nat.le_refl _)
  refine call_set_ints (P := X.prog) (w := X.w) ks (I.ok.hd hc) pl.isList (by simpa using ints_of_vals rv) (by unfold scanBound; omega) fun h' tk c R hc' k => ?_
  exact ⟨.ref s.heap.objs.size, upd H s.heap.objs.size (SetO X.w s.heap.objs.size _ c), I.laid (t' := tk) k (Nat.le_refl _) (setO_new R), rfl, q _ c hn hc'⟩
end NL

namespace NL
open PySem PySem.Spec PyProof.Rows L2
theorem cut_tl {x : V} {r : List V} : cutV (x :: r) (some 1) none = r := by
  unfold cutV
  rw [show HT.sIx (x :: r).length 0 (some 1) = min 1 (x :: r).length from HT.sIx_nat _ _ 1, HT.sIx_none, List.length_cons, show min 1 (r.length + 1) = 1 by omega]
  simp
/-- a position of an arena with n positions, options of at most two successors -/
def PosH (n : Int) (os : Pos') : Prop := os.length ≤ 12 ∧ ∀ o ∈ os, OptG n o ∧ o.length ≤ 2
theorem asc_lt {l : List Int} (h : l.Pairwise (· < ·)) : l.Nodup := h.imp fun {a b} h e => by omega
theorem newH {H : Hp} {p : Addr} (hp : H p = none) (o : HO) : ∃ H', upd H p o = H' ∧ Same H H' ∧ H' p = some o := ⟨_, rfl, same_new hp _, upd_same⟩
section
variable {P : Program} {w : World} {K : PySem.W.Frag} {mg : Str → Option Value} {base : Heap}
/-! ### _law_great -/
def spGreat : Sp := fun vs H Q _ => ∃ d : Addr, vs = [.ref d] ∧ Dr H d ∧ ∀ v A H', Go d H H' → ArIn H' A v → ArG A → A.length ≤ 46 → 9 ≤ A.length → (∀ os ∈ A, ∀ o ∈ os, o.length ≤ 2) → Q v H'
theorem ok_law_great (T : Txt K mg) : FnOk P w K mg base CX0 2 T.a_law_great T.d_law_great P_law_great spGreat := by
  have G_law_take := ok_law_take (P := P) (w := w) (base := base) T
  refine T.F_law_great.ok sc_law_great (fun vs H Q E h => ?_) (fun cdv A outer s H vs Q E hr h => ?_)
  · obtain ⟨d, rfl, _⟩ := h
    rfl
  obtain ⟨d, rfl, hD, q⟩ := h
  refine ⟨_, (pss_cons (ps_set (i := 1) sc_law_great.nd rfl (Or.inl rfl) (pe_op op_add pe_int (pe_call G_law_take (hr.mono (by omega)) (by rfl) T.m_law_take T.F_law_take.kp T.b_law_take .nil pass0 (pa_cons (pv 0) (pa_cons pe_int pa_nil)))))
    (pss_cons (ps_set (i := 2) sc_law_great.nd rfl (Or.inl rfl) (pe_call G_law_take (hr.mono (by omega)) (by rfl) T.m_law_take T.F_law_take.kp T.b_law_take .nil pass0 (pa_cons (pv 0) (pa_cons (pv 1) pa_nil))))
    (pss_cons (ps_set (i := 3) sc_law_great.nd rfl (Or.inl rfl) (pe_call G_law_take (hr.mono (by omega)) (by rfl) T.m_law_take T.F_law_take.kp T.b_law_take .nil pass0 (pa_cons (pv 0) (pa_cons (pv 1) pa_nil))))
    (pss_cons (ps_set (i := 4) sc_law_great.nd rfl (Or.inl rfl) (pe_op op_add pe_int (pe_call G_law_take (hr.mono (by omega)) (by rfl) T.m_law_take T.F_law_take.kp T.b_law_take .nil pass0 (pa_cons (pv 0) (pa_cons (pe_ix ix_list (pe_lst (pa_cons pe_int (pa_cons pe_int pa_nil))) (pe_call G_law_take (hr.mono (by omega)) (by rfl) T.m_law_take T.F_law_take.kp T.b_law_take .nil pass0 (pa_cons (pv 0) (pa_cons pe_int pa_nil))) (fun _ _ => rfl)) pa_nil)))))
    (pss_cons (ps_set (i := 5) sc_law_great.nd rfl (Or.inl rfl) (pe_call G_law_take (hr.mono (by omega)) (by rfl) T.m_law_take T.F_law_take.kp T.b_law_take .nil pass0 (pa_cons (pv 0) (pa_cons pe_int pa_nil))))
    (pss_cons (ps_set (i := 6) sc_law_great.nd rfl (Or.inl rfl) (pe_lst pa_nil))
    (pss_cons (ps_for  PassesOwn.never rfl (pi_range1 (by rfl) T.z_range (pa_cons (pv 1) pa_nil)) (pg_name (i := 7) sc_law_great.nd rfl (Or.inl rfl))
    (pss_cons (ps_set (i := 8) sc_law_great.nd rfl (Or.inl rfl) (pe_lst (pa_cons (pe_tup (pa_cons (pe_op op_mod (pe_callTy call_int1 (by rfl) T.z_int (by decide +kernel) (pa_cons (pe_op op_add (pv 7) pe_int) pa_nil)) (pv 1)) pa_nil)) (pa_cons (pe_callTy call_tuple_of (by rfl) T.z_tuple (by decide +kernel) (pa_cons (pe_callB (cr_sortedSet rfl) (by rfl) T.z_sorted (by decide +kernel) (pa_cons (pe_callTy (cr_setOfI rfl) (by rfl) T.z_set (by decide +kernel) (pa_cons (pe_lst (pa_cons (pe_op op_mod (pe_callTy call_int1 (by rfl) T.z_int (by decide +kernel) (pa_cons (pe_op op_add (pe_op op_mul (pv 2) (pv 7)) (pv 3)) pa_nil)) (pv 1)) (pa_cons (pe_op op_mod (pe_callTy call_int1 (by rfl) T.z_int (by decide +kernel) (pa_cons (pe_op op_add (pe_op op_mul (pv 7) (pv 7)) (pv 2)) pa_nil)) (pv 1)) pa_nil))) pa_nil)) pa_nil)) pa_nil)) pa_nil))))
    (C8.pss_cut (ps_if (pt_cmpR op_eq (pe_op op_mod (pe_callTy call_int1 (by rfl) T.z_int (by decide +kernel) (pa_cons (pe_op op_add (pv 7) (pv 3)) pa_nil)) (pv 4)) pe_int (nomark _))
    (pss_one (ps_set (i := 8) sc_law_great.nd rfl (Or.inl rfl) (pe_slice sl_list (pv 8) (po_some pe_int) po_none)))
    pss_nil)
    (C8.pss_cut (ps_if (PW.pt (pw_and (pt_cmpR op_eq (pe_op op_mod (pe_callTy call_int1 (by rfl) T.z_int (by decide +kernel) (pa_cons (pe_op op_add (pv 7) (pv 2)) pa_nil)) (pe_op op_add (pv 4) pe_int)) pe_int (nomark _)) (pw_and1 (pt_cmpR op_gt (pv 5) pe_int (nomark _)))))
    (pss_one (ps_set (i := 8) sc_law_great.nd rfl (Or.inl rfl) (pe_ix ix_list (pe_lst (pa_cons (pe_lst (pa_cons (pe_tup (pa_cons (pe_un un_neg pe_int) (pa_cons (pv 7) pa_nil))) pa_nil)) (pa_cons (pe_lst pa_nil) (pa_cons (pe_lst (pa_cons (pe_tup (pa_cons (pe_un un_neg pe_int) pa_nil)) (pa_cons (pe_tup (pa_cons (pe_op op_mod (pe_callTy call_int1 (by rfl) T.z_int (by decide +kernel) (pa_cons (pe_op op_add (pv 7) pe_int) pa_nil)) (pv 1)) pa_nil)) pa_nil))) pa_nil)))) (pe_op op_sub (pv 5) pe_int) (fun _ _ => rfl))))
    pss_nil)
    (pss_one (ps_expr (pe_bm PySem.F.plainAttrs_list PySem.F.slot_list_append PySem.F.type_list_append mt_append (pv 6) (pa_cons (pe_callTy call_tuple_of (by rfl) T.z_tuple (by decide +kernel) (pa_cons (pv 8) pa_nil)) pa_nil))))))))
    (pss_one (ps_ret (pe_callTy call_tuple_of (by rfl) T.z_tuple (by decide +kernel) (pa_cons (pv 6) pa_nil))))))))))), ?_⟩
  refine ⟨_, rfl, d, 37, rfl, hD, by decide, fun u1 H1 g1 a1 b1 => ⟨_, _, rfl, rfl, ?_⟩⟩
  dsimp only
  generalize hN : (9 : Int) + u1 = N
  refine ⟨_, rfl, _, rfl, d, N, rfl, g1.dr, by omega, fun a H2 g2 a2 b2 => ?_⟩
  refine ⟨_, rfl, _, rfl, d, N, rfl, g2.dr, by omega, fun b H3 g3 a3 b3 => ?_⟩
  refine ⟨_, rfl, Nat.le_of_ble_eq_true rfl, fun l hl => ?_⟩
  have g3l := g3.trans (Go.new (o := .lst [.int 9, .int 60]) g3.dr hl)
  refine ⟨_, rfl, d, 2, rfl, g3l.dr, by decide, fun u2 H4 g4 a4 b4 => ?_⟩
  have el : H4 l = some (.lst ([9, 60].map V.int)) := g4.fr l _ (new_ne g3.dr hl) upd_same
  obtain ⟨m, hm, hmm⟩ := atI_map (f := V.int) (xs := ([9, 60] : List Int)) a4 b4
  have hm9 : m = 9 ∨ m = 60 := by simpa using hmm
  refine ⟨l, _, _, _, rfl, rfl, sqd el, hm, ?_⟩
  refine ⟨d, m, rfl, g4.dr, by omega, fun u3 H5 g5 a5 b5 => ⟨_, _, rfl, rfl, ?_⟩⟩
  dsimp only
  generalize hc : (3 : Int) + u3 = c
  refine ⟨_, rfl, d, 4, rfl, g5.dr, by decide, fun bad H6 g6 a6 b6 => ?_⟩
  have g16 := ((((g1.trans g2).trans g3l).trans g4).trans g5).trans g6
  refine ⟨Nat.zero_le _, fun p hp => ?_⟩
  have hpd := new_ne g6.dr hp
  have hp0 := g16.free hp
  refine ⟨_, rfl, N, rfl, by omega, by omega, for_range (lo := 0) (n := N.toNat) (fun (j : Nat) (σ : L2.St) (H' : Hp) => ∃ (xs : List V) (A' : Ar) (y7 y8 : Option V), σ = [some (.ref d), some (.int N), some (.int a), some (.int b), some (.int c), some (.int bad), some (.ref p), y7, y8] ∧ Go d H H' ∧ H' p = some (.lst xs) ∧ Each (PosIn H') A' xs ∧ A'.length = j ∧ ∀ os ∈ A', PosH N os) ?_ ?_ ?_⟩
  · exact ⟨[], [], none, none, rfl, g16.trans (Go.new g6.dr hp), upd_same, .nil, rfl, fun os h => nomatch h⟩
  · rintro j σ H7 hj ⟨xs, A', y7, y8, rfl, g7, e7, hxs, hA, hG⟩
    have hkN : (0 : Int) + (j : Int) < N := by omega
    have hN0 : 0 < N := by omega
    have md : ∀ z : Int, 0 ≤ z % N ∧ z % N < N := fun z => ⟨Int.emod_nonneg z (by omega), Int.emod_lt_of_pos z hN0⟩
    generalize hk : (0 : Int) + (j : Int) = k at hkN ⊢
    have hk0 : 0 ≤ k := by omega
    -- the two options
    refine ⟨_, rfl, _, _, rfl, rfl, .inl ⟨_, rfl, _, rfl, _, _, rfl, rfl, hN0, Nat.le_of_ble_eq_true rfl, fun t1 ht1 => ?_⟩⟩
    have s1 := same_new ht1 (.tup [V.int ((k + 1) % N)])
    have e1 : upd H7 t1 (.tup [V.int ((k + 1) % N)]) t1 = some (.tup [V.int ((k + 1) % N)]) := upd_same
    generalize upd H7 t1 (.tup [V.int ((k + 1) % N)]) = H8 at s1 e1 ⊢
    refine ⟨_, rfl, _, rfl, _, _, rfl, rfl, .inl ⟨by omega, by omega⟩, _, rfl, _, _, rfl, rfl, .inl ⟨_, rfl, _, rfl, _, _, rfl, rfl, hN0, ?_⟩⟩
    refine ⟨_, rfl, _, rfl, _, _, rfl, rfl, .inl ⟨by omega, by omega⟩, _, rfl, _, _, rfl, rfl, .inl ⟨_, rfl, _, rfl, _, _, rfl, rfl, hN0, ?_⟩⟩
    dsimp only
    generalize hx1 : (a * k + b) % N = x1
    generalize hx2 : (k * k + a) % N = x2
    have hb1 := md (a * k + b)
    have hb2 := md (k * k + a)
    rw [hx1] at hb1
    rw [hx2] at hb2
    refine ⟨Nat.le_of_ble_eq_true rfl, fun l1 hl1 => ⟨l1, [x1, x2], rfl, sqd upd_same, (by show 2 < 64; decide), fun s0 c1 hs0 hc1 => ?_⟩⟩
    have s2 := (same_new hl1 (.lst [V.int x1, V.int x2])).trans (same_new hs0 (SetO w s0 (fun j => decide (j ∈ [x1, x2])) c1))
    refine ⟨s0, _, c1, rfl, upd_same, Nat.lt_of_le_of_lt hc1 (by show 2 < 64; decide), fun ns q1 hasc hmem hlen hq1 => ?_⟩
    refine ⟨q1, _, rfl, .inl ⟨sqd upd_same, fun t2 ht2 => ?_⟩⟩
    obtain ⟨Ha, ea, sa, _⟩ := newH hq1 (.lst (ns.map V.int))
    rw [ea] at ht2 ⊢
    obtain ⟨Hb, eb, sb, et2⟩ := newH ht2 (.tup (ns.map V.int))
    rw [eb]
    refine ⟨Nat.le_of_ble_eq_true rfl, fun ol hol => ?_⟩
    obtain ⟨H9, e9, s9, e3⟩ := newH hol (.lst [V.ref t1, V.ref t2])
    rw [e9]
    have s4 := ((s2.trans sa).trans sb).trans s9
    have e2 := s9 _ _ et2
    have s79 := s1.trans s4
    have o1 : OptG N [(k + 1) % N] := .one (by have := md (k + 1); omega) (md (k + 1)).2
    have o2 : OptG N ns := by
      have hmm : ∀ s ∈ ns, s = x1 ∨ s = x2 := fun s hs => by
        have := (hmem s).mp hs
        simpa using this
      refine ⟨fun e => ?_, by rw [hlen]; exact Nat.le_trans hc1 (by show 2 ≤ 60; decide), fun s hs => ?_, hasc⟩
      · have := (hmem x1).mpr (by simp)
        rw [e] at this
        cases this
      · rcases hmm s hs with rfl | rfl <;> omega
    have o2l : ns.length ≤ 2 := by rw [hlen]; exact hc1
    have r1 : OptIn H9 [(k + 1) % N] (.ref t1) := ⟨t1, rfl, s4 _ _ e1⟩
    have r2 : OptIn H9 ns (.ref t2) := ⟨t2, rfl, e2⟩
    let I : L2.St → Hp → Prop := fun σ H' => ∃ (os : Pos') (ol : Addr) (zs : List V), σ = [some (.ref d), some (.int N), some (.int a), some (.int b), some (.int c), some (.int bad), some (.ref p), some (.int k), some (.ref ol)] ∧ Same H7 H' ∧ H' ol = some (.lst zs) ∧ Each (OptIn H') os zs ∧ PosH N os
    -- the first one left out
    refine ⟨I, ?_, ?_⟩
    · refine ⟨_, rfl, _, rfl, _, _, rfl, rfl, .inl ⟨_, rfl, _, rfl, _, _, rfl, rfl, by omega, rfl, _, rfl, ?_⟩⟩
      refine ite2 (fun z => ?_) (fun z => ?_)
      · refine ⟨_, rfl, 1, rfl, ol, _, rfl, sqd e3, fun om hom => ?_⟩
        rw [cut_tl]
        have s5 := same_new hom (.lst [V.ref t2])
        exact ⟨[ns], om, _, rfl, s79.trans s5, upd_same, .cons (r2.tp (.same s5)) .nil, Nat.le_of_ble_eq_true rfl, fun o ho => by rw [List.mem_singleton.mp ho]; exact ⟨o2, o2l⟩⟩
      · exact ⟨[_, ns], ol, _, rfl, s79, e3, .cons r1 (.cons r2 .nil), Nat.le_of_ble_eq_true rfl, fun o ho => by
          rcases List.mem_cons.mp ho with rfl | ho
          · exact ⟨o1, by simp⟩
          · rw [List.mem_singleton.mp ho]; exact ⟨o2, o2l⟩⟩
    rintro σ H10 ⟨os, ol2, zs, rfl, s10, e10, hzs, hos⟩
    -- bad ones
    refine ⟨I, ?_, ?_⟩
    · refine ⟨_, rfl, _, rfl, _, _, rfl, rfl, .inl ⟨_, rfl, _, rfl, _, _, rfl, rfl, _, _, rfl, rfl, by omega, rfl, _, rfl, ?_⟩⟩
      have keep : I [some (.ref d), some (.int N), some (.int a), some (.int b), some (.int c), some (.int bad), some (.ref p), some (.int k), some (.ref ol2)] H10 := ⟨os, ol2, zs, rfl, s10, e10, hzs, hos⟩
      refine ite2 (fun z => ?_) (fun z => ?_)
      · refine ⟨_, rfl, _, _, rfl, rfl, _, rfl, ?_⟩
        refine ite2 (fun z => ?_) (fun z => keep)
        have hbad : 0 < bad := of_decide_eq_true z
        refine ⟨_, rfl, _, rfl, Nat.le_of_ble_eq_true rfl, fun ta hta => ?_⟩
        obtain ⟨Ha, ea, sa, ka⟩ := newH hta (.tup [V.int (-1), V.int k])
        rw [show upd H10 ta (.tup [V.int (-1), V.int k]) = Ha from ea]
        refine ⟨Nat.le_of_ble_eq_true rfl, fun la hla => ?_⟩
        obtain ⟨Hb, eb, sb, kb⟩ := newH hla (.lst [V.ref ta])
        rw [eb]
        refine ⟨Nat.zero_le _, fun lb hlb => ?_⟩
        obtain ⟨Hc, ec, sc, kc⟩ := newH hlb (.lst [])
        rw [ec]
        refine ⟨_, rfl, Nat.le_of_ble_eq_true rfl, fun tb htb => ?_⟩
        obtain ⟨Hd, ed, sd, kd⟩ := newH htb (.tup [V.int (-1)])
        rw [show upd Hc tb (.tup [V.int (-1)]) = Hd from ed]
        refine ⟨_, rfl, _, _, rfl, rfl, .inl ⟨_, rfl, _, rfl, _, _, rfl, rfl, hN0, Nat.le_of_ble_eq_true rfl, fun tc htc => ?_⟩⟩
        obtain ⟨He, ee, se, ke⟩ := newH htc (.tup [V.int ((k + 2) % N)])
        rw [show upd Hd tc (.tup [V.int ((k + 2) % N)]) = He from ee]
        refine ⟨Nat.le_of_ble_eq_true rfl, fun lc hlc => ?_⟩
        obtain ⟨Hf, ef, sf, kf⟩ := newH hlc (.lst [V.ref tb, V.ref tc])
        rw [ef]
        refine ⟨Nat.le_of_ble_eq_true rfl, fun lo hlo => ?_⟩
        obtain ⟨Hg, eg, sg, kg⟩ := newH hlo (.lst [V.ref la, V.ref lb, V.ref lc])
        rw [eg]
        have sag := ((((((sa.trans sb).trans sc).trans sd).trans se).trans sf).trans sg)
        have m2 := md (k + 2)
        refine ⟨_, rfl, _, _, rfl, rfl, ?_⟩
        have hcase : bad = 1 ∨ bad = 2 ∨ bad = 3 := by omega
        rcases hcase with rfl | rfl | rfl
        · refine ⟨lo, _, _, _, rfl, rfl, sqd kg, atI0, ?_⟩
          refine ⟨[[-1, k]], la, _, rfl, s10.trans sag, (((((sc.trans sd).trans se).trans sf).trans sg)) _ _ kb, .cons ⟨ta, rfl, ((((((sb.trans sc).trans sd).trans se).trans sf).trans sg)) _ _ ka⟩ .nil, Nat.le_of_ble_eq_true rfl, fun o ho => ?_⟩
          rw [List.mem_singleton.mp ho]
          refine ⟨⟨by simp, by simp, fun s hs => ?_, ?_⟩, by simp⟩
          · simp only [List.mem_cons, List.not_mem_nil, or_false] at hs
            rcases hs with rfl | rfl <;> omega
          · refine List.pairwise_cons.mpr ⟨fun x hx => ?_, List.pairwise_singleton _ _⟩
            rw [List.mem_singleton.mp hx]
            omega
        · refine ⟨lo, _, _, _, rfl, rfl, sqd kg, atI1, ?_⟩
          exact ⟨[], lb, _, rfl, s10.trans sag, ((((sd.trans se).trans sf).trans sg)) _ _ kc, .nil, Nat.zero_le _, fun o ho => nomatch ho⟩
        · refine ⟨lo, _, _, _, rfl, rfl, sqd kg, (atI_nat (j := 2) rfl), ?_⟩
          refine ⟨[[-1], [(k + 2) % N]], lc, _, rfl, s10.trans sag, sg _ _ kf, .cons ⟨tb, rfl, ((se.trans sf).trans sg) _ _ kd⟩ (.cons ⟨tc, rfl, (sf.trans sg) _ _ ke⟩ .nil), Nat.le_of_ble_eq_true rfl, fun o ho => ?_⟩
          rcases List.mem_cons.mp ho with rfl | ho
          · exact ⟨.one (by omega) (by omega), by simp⟩
          · rw [List.mem_singleton.mp ho]
            exact ⟨.one (by omega) (by omega), by simp⟩
      · exact iteF keep
    rintro σ H11 ⟨os, ol3, zs, rfl, s11, e11, hzs, hos⟩
    have e11p := s11 _ _ e7
    have hxl := hxs.1
    refine ⟨_, rfl, .inl ⟨rfl, _, sqd e11p⟩, _, rfl, ol3, zs, rfl, .inl ⟨sqd e11, fun t ht => ?_⟩⟩
    have st := same_new ht (.tup zs)
    have ept := st _ _ e11p
    refine ⟨p, xs, _, rfl, rfl, ept, big' (by omega), ?_⟩
    refine ⟨xs ++ [.ref t], A' ++ [os], some (.int k), some (.ref ol3), rfl, ((g7.trans (.same g7.dr s11)).trans (.same (g7.trans (.same g7.dr s11)).dr st)).put2 hp0 hpd, upd_same, ?_, ?_, ?_⟩
    · have tp : Tp H7 (upd (upd H11 t (.tup zs)) p (.lst (xs ++ [.ref t]))) := tp_put ((Tp.same s11).trans (Tp.same st)) ept
      refine (hxs.mono fun o x => PosIn.tp tp).snoc ⟨t, zs, rfl, ?_, ?_⟩
      · rw [upd_ne (fun e => by rw [e, e11p] at ht; cases ht)]
        exact upd_same
      · exact hzs.mono fun o x => OptIn.tp (tp_put (Tp.same st) ept)
    · rw [List.length_append, hA]
      rfl
    · intro o ho
      rcases List.mem_append.mp ho with ho | ho
      · exact hG o ho
      · rw [List.mem_singleton.mp ho]
        exact hos
  · rintro σ H7 ⟨xs, A', y7, y8, rfl, g7, e7, hxs, hA, hG⟩
    refine ⟨_, rfl, p, xs, rfl, .inl ⟨sqd e7, fun t ht => ?_⟩⟩
    have st := same_new ht (.tup xs)
    refine q _ A' _ (g7.trans (.same g7.dr st)) ⟨t, xs, rfl, upd_same, hxs.mono fun os x => PosIn.tp (.same st)⟩ ⟨by omega, fun os h => ?_⟩ (by omega) (by omega) fun os h o ho => ((hG os h).2 o ho).2
    rw [show (A'.length : Int) = N by omega]
    exact ⟨(hG os h).1, fun o ho => ((hG os h).2 o ho).1⟩
end
end NL

namespace NL
open PySem PySem.Spec PyProof.Rows L2
theorem cut_pre {xs : List V} {k : Nat} : cutV xs none (some (k : Int)) = xs.take k := by
  unfold cutV
  rw [HT.sIx_none, show HT.sIx xs.length xs.length (some (k : Int)) = min k xs.length from HT.sIx_nat _ _ _, List.drop_zero, Nat.sub_zero]
  by_cases h : k ≤ xs.length
  · rw [Nat.min_eq_left h]
  · rw [Nat.min_eq_right (by omega), List.take_length, List.take_of_length_le (by omega)]
theorem slA_of {K : PySem.W.Frag} {a : Addr} {xs : List V} {lo hi : Option Int} {H : Hp} {Q : VK} (ha : H a = some (.tup xs)) (q : ∀ p H', Same H H' → H' p = some (.tup (cutV xs lo hi)) → Q (.ref p) H') : rSlA K (.ref a) lo hi H Q := by
  refine ⟨a, xs, rfl, sqt ha, fun h => ?_, fun _ p hp => q p _ (same_new hp _) upd_same⟩
  refine q a H (Same.refl H) ?_
  have : cutV xs lo hi = xs := by
    unfold cutV
    rw [h.1, h.2, List.drop_zero, Nat.sub_zero]
    exact List.take_length
  rw [this]
  exact ha
theorem catA_of {K : PySem.W.Frag} {a b : Addr} {xs ys : List V} {H : Hp} {Q : VK} (ha : H a = some (.tup xs)) (hb : H b = some (.tup ys)) (hl : xs.length + ys.length ≤ 1000) (q : ∀ p H', Same H H' → H' p = some (.tup (xs ++ ys)) → Q (.ref p) H') : rCatA K (.ref a) (.ref b) H Q := by
  refine ⟨a, b, xs, ys, rfl, rfl, sqt ha, sqt hb, big (by omega), fun h => ?_, fun _ h => ?_, fun _ _ p hp => ?_⟩
  · exact q b H (Same.refl H) (by rw [h, List.nil_append]; exact hb)
  · exact q a H (Same.refl H) (by rw [h, List.append_nil]; exact ha)
  · exact q p _ (same_new hp _) upd_same
theorem rg_ints (a b : Int) : rgV a b = ((List.range (b - a).toNat).map fun i : Nat => a + (i : Int)).map V.int := by
  unfold rgV
  rw [List.map_map]
  rfl
theorem rg_good {u n : Int} (h0 : 0 ≤ u) (h1 : u < 2) (hn : 0 < n) (hm : n ≤ 46) : OptG n ((List.range (n - (0 - u)).toNat).map fun i : Nat => (0 - u) + (i : Int)) := by
  refine ⟨fun e => ?_, ?_, fun s hs => ?_, ?_⟩
  · have h := congrArg List.length e
    rw [List.length_map, List.length_range, List.length_nil] at h
    omega
  · rw [List.length_map, List.length_range]
    omega
  · obtain ⟨i, hi, rfl⟩ := List.mem_map.mp hs
    have := List.mem_range.mp hi
    omega
  · rw [List.pairwise_map]
    exact List.pairwise_lt_range.imp fun {a b} h => by omega
section
variable {P : Program} {w : World} {K : PySem.W.Frag} {mg : Str → Option Value} {base : Heap}
/-! ### _law_arena -/
def spArena : Sp := fun vs H Q _ => ∃ (d : Addr) (most : Int), vs = [.ref d, .int most] ∧ Dr H d ∧ 0 ≤ most ∧ most ≤ 45 ∧ ∀ v A H', Go d H H' → ArIn H' A v → ArG A → A.length ≤ 46 → ((A.length : Int) ≤ most ∨ (9 ≤ A.length ∧ ∀ os ∈ A, ∀ o ∈ os, o.length ≤ 2)) → Q v H'
theorem ok_law_arena (T : Txt K mg) : FnOk P w K mg base CX0 3 T.a_law_arena T.d_law_arena P_law_arena spArena := by
  have G_law_take := ok_law_take (P := P) (w := w) (base := base) T
  have G_law_great := ok_law_great (P := P) (w := w) (base := base) T
  refine T.F_law_arena.ok sc_law_arena (fun vs H Q E h => ?_) (fun cdv A outer s H vs Q E hr h => ?_)
  · obtain ⟨d, most, rfl, _⟩ := h
    rfl
  obtain ⟨d, most, rfl, hD, m0, m1, q⟩ := h
  refine ⟨_, (pss_cons (ps_set (i := 2) sc_law_arena.nd rfl (Or.inl rfl) (pe_call G_law_take (hr.mono (by omega)) (by rfl) T.m_law_take T.F_law_take.kp T.b_law_take .nil pass0 (pa_cons (pv 0) (pa_cons pe_int pa_nil))))
    (pss_cons (ps_if (pt_cmpR op_eq (pv 2) pe_int (nomark _))
    (pss_one (ps_ret (pe_call G_law_great (hr.mono (by omega)) (by rfl) T.m_law_great T.F_law_great.kp T.b_law_great .nil pass0 (pa_cons (pv 0) pa_nil))))
    pss_nil)
    (pss_cons (ps_set (i := 3) sc_law_arena.nd rfl (Or.inl rfl) (pe_ix ix_list (pe_lst (pa_cons pe_int (pa_cons pe_int (pa_cons pe_int pa_nil)))) (pe_call G_law_take (hr.mono (by omega)) (by rfl) T.m_law_take T.F_law_take.kp T.b_law_take .nil pass0 (pa_cons (pv 0) (pa_cons pe_int pa_nil))) (fun _ _ => rfl)))
    (pss_cons (ps_set (i := 4) sc_law_arena.nd rfl (Or.inl rfl) (pe_ix ix_list (pe_lst (pa_cons (pe_lst (pa_cons pe_int (pa_cons pe_int (pa_cons pe_int (pa_cons pe_int (pa_cons pe_int (pa_cons pe_int pa_nil))))))) (pa_cons (pe_lst (pa_cons pe_int (pa_cons pe_int (pa_cons pe_int (pa_cons pe_int (pa_cons pe_int (pa_cons pe_int pa_nil))))))) pa_nil))) (pe_call G_law_take (hr.mono (by omega)) (by rfl) T.m_law_take T.F_law_take.kp T.b_law_take .nil pass0 (pa_cons (pv 0) (pa_cons pe_int pa_nil))) (fun _ _ => rfl)))
    (pss_cons (ps_set (i := 5) sc_law_arena.nd rfl (Or.inr rfl) (pe_call G_law_take (hr.mono (by omega)) (by rfl) T.m_law_take T.F_law_take.kp T.b_law_take .nil pass0 (pa_cons (pv 0) (pa_cons (pe_op op_add (pv 1) pe_int) pa_nil))))
    (pss_cons (ps_set (i := 6) sc_law_arena.nd rfl (Or.inl rfl) (pe_lst pa_nil))
    (pss_cons (ps_for  PassesOwn.never rfl (pi_range1 (by rfl) T.z_range (pa_cons (pv 5) pa_nil)) (pg_name (i := 7) sc_law_arena.nd rfl (Or.inl rfl))
    (pss_cons (ps_set (i := 8) sc_law_arena.nd rfl (Or.inl rfl) (pe_lst pa_nil))
    (pss_cons (ps_for  PassesOwn.never rfl (pi_range1 (by rfl) T.z_range (pa_cons (pe_ix ix_list (pv 4) (pe_call G_law_take (hr.mono (by omega)) (by rfl) T.m_law_take T.F_law_take.kp T.b_law_take .nil pass0 (pa_cons (pv 0) (pa_cons pe_int pa_nil))) (fun _ _ => rfl)) pa_nil)) (pg_name (i := 9) sc_law_arena.nd rfl (Or.inl rfl))
    (pss_cons (ps_set (i := 10) sc_law_arena.nd rfl (Or.inl rfl) (pe_lst pa_nil))
    (pss_cons (ps_for  PassesOwn.never rfl (pi_range1 (by rfl) T.z_range (pa_cons (pe_op op_add pe_int (pe_ix ix_list (pe_lst (pa_cons pe_int (pa_cons pe_int (pa_cons pe_int (pa_cons pe_int (pa_cons pe_int (pa_cons pe_int pa_nil))))))) (pe_call G_law_take (hr.mono (by omega)) (by rfl) T.m_law_take T.F_law_take.kp T.b_law_take .nil pass0 (pa_cons (pv 0) (pa_cons pe_int pa_nil))) (fun _ _ => rfl))) pa_nil)) (pg_name (i := 11) sc_law_arena.nd rfl (Or.inl rfl))
    (pss_cons (ps_set (i := 12) sc_law_arena.nd rfl (Or.inl rfl) (pe_call G_law_take (hr.mono (by omega)) (by rfl) T.m_law_take T.F_law_take.kp T.b_law_take .nil pass0 (pa_cons (pv 0) (pa_cons (pe_op op_mul (pv 5) (pv 3)) pa_nil))))
    (pss_cons (ps_set (i := 13) sc_law_arena.nd rfl (Or.inl rfl) (pe_op op_fdiv (pv 12) (pv 3)))
    (C8.pss_cut (ps_if (pt_cmpR op_eq (pe_op op_mod (pe_callTy call_int1 (by rfl) T.z_int (by decide +kernel) (pa_cons (pv 12) pa_nil)) (pv 3)) pe_int (nomark _))
    (pss_one (ps_set (i := 13) sc_law_arena.nd rfl (Or.inl rfl) (pe_un un_neg pe_int)))
    pss_nil)
    (pss_one (ps_if (pt_cmpR op_notIn_seq (pv 13) (pv 10) (by rfl))
    (pss_one (ps_expr (pe_bm PySem.F.plainAttrs_list PySem.F.slot_list_append PySem.F.type_list_append mt_append (pv 10) (pa_cons (pv 13) pa_nil))))
    pss_nil))))))
    (pss_one (ps_expr (pe_bm PySem.F.plainAttrs_list PySem.F.slot_list_append PySem.F.type_list_append mt_append (pv 8) (pa_cons (pe_callTy call_tuple_of (by rfl) T.z_tuple (by decide +kernel) (pa_cons (pe_callB (cr_sorted) (by rfl) T.z_sorted (by decide +kernel) (pa_cons (pv 10) pa_nil)) pa_nil)) pa_nil)))))))
    (pss_one (ps_expr (pe_bm PySem.F.plainAttrs_list PySem.F.slot_list_append PySem.F.type_list_append mt_append (pv 6) (pa_cons (pe_callTy call_tuple_of (by rfl) T.z_tuple (by decide +kernel) (pa_cons (pv 8) pa_nil)) pa_nil)))))))
    (C8.pss_cut (ps_if (PW.pt (pw_and (pt_cmpR op_gt (pv 5) pe_int (nomark _)) (pw_and1 (pt_cmpR op_eq (pe_call G_law_take (hr.mono (by omega)) (by rfl) T.m_law_take T.F_law_take.kp T.b_law_take .nil pass0 (pa_cons (pv 0) (pa_cons pe_int pa_nil))) pe_int (nomark _)))))
    (pss_cons (ps_set (i := 14) sc_law_arena.nd rfl (Or.inr rfl) (pe_call G_law_take (hr.mono (by omega)) (by rfl) T.m_law_take T.F_law_take.kp T.b_law_take .nil pass0 (pa_cons (pv 0) (pa_cons (pv 5) pa_nil))))
    (pss_cons (ps_set (i := 15) sc_law_arena.nd rfl (Or.inl rfl) (pe_op op_cat (pe_lst (pa_cons (pe_tupRg rfl (by rfl) T.z_tuple (prg_2 (by rfl) T.z_range (pe_op op_sub pe_int (pe_call G_law_take (hr.mono (by omega)) (by rfl) T.m_law_take T.F_law_take.kp T.b_law_take .nil pass0 (pa_cons (pv 0) (pa_cons pe_int pa_nil)))) (pv 5))) pa_nil)) (pe_lc (own := [("j", 9)]) (g := (gName 9)) (tt := tYes) rfl sc_law_arena.nd (pi_range1 (by rfl) T.z_range (pa_cons pe_int pa_nil)) (blkOk_by (N := N_law_arena) (sc := defScope s_law_arena) (by decide +kernel)) (fun _ _ _ _ _ => (pg_name (i := 9) sc_law_arena.nd rfl (Or.inl rfl))) (fun _ _ _ _ _ => pts_nil) (fun _ _ _ _ _ => (pe_tup (pa_cons (pe_op op_mod (pe_callTy call_int1 (by rfl) T.z_int (by decide +kernel) (pa_cons (pe_op op_add (pe_op op_mul (pv 9) (pv 14)) (pv 9)) pa_nil)) (pv 5)) pa_nil))))))
    (pss_one (ps_asg (pe_slice sl_tupA (pe_op op_catA (pe_ix ix_list (pv 6) (pv 14) (fun _ _ => rfl)) (pe_callTy call_tuple_of (by rfl) T.z_tuple (by decide +kernel) (pa_cons (pv 15) pa_nil))) po_none (po_some pe_int)) (pg_sub (pv 6) (pv 14) set_list)))))
    pss_nil)
    (pss_one (ps_ret (pe_callTy call_tuple_of (by rfl) T.z_tuple (by decide +kernel) (pa_cons (pv 6) pa_nil)))))))))))), ?_⟩
  refine ⟨_, rfl, d, 12, rfl, hD, by decide, fun sh H1 g1 _ _ => ?_⟩
  refine ⟨_, rfl, rfl, _, rfl, ?_⟩
  refine ite2 (fun z => ?_) (fun z => ?_)
  · exact ⟨_, rfl, d, rfl, g1.dr, fun v A H' g hA hG hl h9 h2 => q v A H' (g1.trans g) hA hG hl (.inr ⟨h9, h2⟩)⟩
  -- how rare it is to be out
  refine ⟨Nat.le_of_ble_eq_true rfl, fun l hl => ?_⟩
  have g1l := g1.trans (Go.new (o := .lst [.int 4, .int 14, .int 60]) g1.dr hl)
  refine ⟨_, rfl, d, 3, rfl, g1l.dr, by decide, fun u2 H2 g2 a2 b2 => ?_⟩
  have el : H2 l = some (.lst ([4, 14, 60].map V.int)) := g2.fr l _ (new_ne g1.dr hl) upd_same
  obtain ⟨rare, hra, hrm⟩ := atI_map (f := V.int) (xs := ([4, 14, 60] : List Int)) a2 b2
  have hr3 : 0 < rare ∧ rare ≤ 60 := by
    simp only [List.mem_cons, List.not_mem_nil, or_false] at hrm
    omega
  refine ⟨l, _, _, _, rfl, rfl, sqd el, hra, ?_⟩
  have g12 := g1l.trans g2
  -- how many options
  refine ⟨Nat.le_of_ble_eq_true rfl, fun l1 hl1 => ?_⟩
  obtain ⟨Ha, ea, sa, ka⟩ := newH hl1 (.lst [.int 0, .int 1, .int 1, .int 2, .int 2, .int 3])
  rw [ea]
  refine ⟨Nat.le_of_ble_eq_true rfl, fun l2 hl2 => ?_⟩
  obtain ⟨Hb, eb, sb, kb⟩ := newH hl2 (.lst [.int 1, .int 1, .int 2, .int 2, .int 3, .int 4])
  rw [eb]
  refine ⟨Nat.le_of_ble_eq_true rfl, fun l3 hl3 => ?_⟩
  obtain ⟨Hc, ec, sc, kc⟩ := newH hl3 (.lst [.ref l1, .ref l2])
  rw [ec]
  have gc := g12.trans (.same g12.dr ((sa.trans sb).trans sc))
  refine ⟨_, rfl, d, 2, rfl, gc.dr, by decide, fun u3 H3 g3 a3 b3 => ?_⟩
  have g13 := gc.trans g3
  have nl1 : l1 ≠ d := new_ne g12.dr hl1
  have nl2 : l2 ≠ d := new_ne (g12.trans (.same g12.dr sa)).dr hl2
  have nl3 : l3 ≠ d := new_ne (g12.trans (.same g12.dr (sa.trans sb))).dr hl3
  obtain ⟨ml, M, nml, hmat, eml, hM6, hMb⟩ : ∃ (ml : Addr) (M : List Int), ml ≠ d ∧ atI [V.ref l1, V.ref l2] u3 = some (.ref ml) ∧ H3 ml = some (.lst (M.map V.int)) ∧ M.length = 6 ∧ ∀ x ∈ M, 0 ≤ x ∧ x ≤ 4 := by
    have hc : u3 = 0 ∨ u3 = 1 := by omega
    rcases hc with rfl | rfl
    · exact ⟨l1, [0, 1, 1, 2, 2, 3], nl1, atI0, g3.fr l1 _ nl1 ((sb.trans sc) _ _ ka), rfl, by decide⟩
    · exact ⟨l2, [1, 1, 2, 2, 3, 4], nl2, atI1, g3.fr l2 _ nl2 (sc _ _ kb), rfl, by decide⟩
  refine ⟨l3, _, _, _, rfl, rfl, sqd (g3.fr l3 _ nl3 kc), hmat, ?_⟩
  refine ⟨_, rfl, _, rfl, _, _, rfl, rfl, d, _, rfl, g3.dr, by omega, fun n H4 g4 n0 n1 => ?_⟩
  have g14 := g13.trans g4
  have eml4 := g4.fr ml _ nml eml
  have n46 : n ≤ 46 := by
    have : n < most + 1 := n1
    omega
  refine ⟨Nat.zero_le _, fun p hp => ?_⟩
  have hpd := new_ne g4.dr hp
  have hp0 := g14.free hp
  obtain ⟨H5, e5, s5, k5⟩ := newH hp (.lst [])
  rw [e5]
  have g15 := g14.trans (.same g4.dr s5)
  have eml5 := s5 _ _ eml4
  have npm : p ≠ ml := fun e => by
    rw [e, eml4] at hp
    cases hp
  refine ⟨_, rfl, n, rfl, by omega, by omega, for_range (lo := 0) (n := n.toNat) (fun (j : Nat) (σ : L2.St) (H' : Hp) => ∃ (xs : List V) (A' : Ar) (y7 y8 y9 y10 y11 y12 y13 : Option V), σ = [some (.ref d), some (.int most), some (.int sh), some (.int rare), some (.ref ml), some (.int n), some (.ref p), y7, y8, y9, y10, y11, y12, y13, none, none] ∧ Go d H H' ∧ H' ml = some (.lst (M.map V.int)) ∧ H' p = some (.lst xs) ∧ Each (PosIn H') A' xs ∧ A'.length = j ∧ ∀ os ∈ A', PosG n os) ?_ ?_ ?_⟩
  · exact ⟨[], [], none, none, none, none, none, none, none, rfl, g15, eml5, k5, .nil, rfl, fun os h => nomatch h⟩
  · rintro j σ H7 hj ⟨xs, A', y7, y8, y9, y10, y11, y12, y13, rfl, g7, em7, e7, hxs, hA, hG⟩
    have hn0 : 0 < n := by omega
    generalize hk : (0 : Int) + (j : Int) = k
    refine ⟨Nat.zero_le _, fun ol hol => ?_⟩
    have nol := new_ne g7.dr hol
    obtain ⟨H8, e8, s8, k8⟩ := newH hol (.lst [])
    rw [e8]
    have g78 := Go.same g7.dr s8
    refine ⟨_, rfl, _, rfl, d, 6, rfl, g78.dr, by decide, fun u4 H9 g9 a4 b4 => ?_⟩
    have em9 := g9.fr ml _ nml (s8 _ _ em7)
    obtain ⟨mm, hmm, hmmem⟩ := atI_map (f := V.int) (xs := M) a4 (by rw [hM6]; exact b4)
    have hmb := hMb mm hmmem
    refine ⟨ml, _, _, _, rfl, rfl, sqd em9, hmm, mm, rfl, by omega, by omega, ?_⟩
    have g79 := g78.trans g9
    have e9p := g9.fr p _ hpd (s8 _ _ e7)
    have e9o := g9.fr ol _ nol k8
    have hol7 : H7 ol = none := hol
    refine for_range (lo := 0) (n := mm.toNat) (fun (i : Nat) (σ : L2.St) (H' : Hp) => ∃ (zs : List V) (os : Pos') (y9 y10 y11 y12 y13 : Option V), σ = [some (.ref d), some (.int most), some (.int sh), some (.int rare), some (.ref ml), some (.int n), some (.ref p), some (.int k), some (.ref ol), y9, y10, y11, y12, y13, none, none] ∧ Go d H7 H' ∧ H' ol = some (.lst zs) ∧ Each (OptIn H') os zs ∧ os.length = i ∧ ∀ o ∈ os, OptG n o) ?_ ?_ ?_
    · exact ⟨[], [], y9, y10, y11, y12, y13, rfl, g79, e9o, .nil, rfl, fun o h => nomatch h⟩
    · rintro i σ H10 hi ⟨zs, os, y9, y10, y11, y12, y13, rfl, g10, e10, hzs, hos, hG2⟩
      generalize hk2 : (0 : Int) + (i : Int) = k2
      refine ⟨Nat.zero_le _, fun fl hfl => ?_⟩
      have nfl := new_ne g10.dr hfl
      obtain ⟨H11, e11, s11, k11⟩ := newH hfl (.lst [])
      rw [e11]
      have ga := Go.same g10.dr s11
      refine ⟨Nat.le_of_ble_eq_true rfl, fun l5 hl5 => ?_⟩
      obtain ⟨H12, e12, s12, k12⟩ := newH hl5 (.lst [.int 0, .int 0, .int 1, .int 1, .int 2, .int 3])
      rw [e12]
      have gb := ga.trans (.same ga.dr s12)
      refine ⟨_, rfl, d, 6, rfl, gb.dr, by decide, fun u5 H13 g13' a5 b5 => ?_⟩
      have n5 := new_ne ga.dr hl5
      obtain ⟨mf, hmf, hmfm⟩ := atI_map (f := V.int) (xs := ([0, 0, 1, 1, 2, 3] : List Int)) a5 b5
      have hmf3 : 0 ≤ mf ∧ mf ≤ 3 := by
        simp only [List.mem_cons, List.not_mem_nil, or_false] at hmfm
        omega
      refine ⟨l5, _, _, _, rfl, rfl, sqd (g13'.fr l5 _ n5 k12), hmf, _, _, rfl, rfl, 1 + mf, rfl, by omega, by omega, ?_⟩
      have gc2 := gb.trans g13'
      have ef13 := g13'.fr fl _ nfl (s12 _ _ k11)
      refine for_range (lo := 0) (n := (1 + mf).toNat) (fun (i : Nat) (σ : L2.St) (H' : Hp) => ∃ (fs : List Int) (y11 y12 y13 : Option V), σ = [some (.ref d), some (.int most), some (.int sh), some (.int rare), some (.ref ml), some (.int n), some (.ref p), some (.int k), some (.ref ol), some (.int k2), some (.ref fl), y11, y12, y13, none, none] ∧ Go d H10 H' ∧ H' fl = some (.lst (fs.map V.int)) ∧ fs.Nodup ∧ fs.length ≤ i ∧ (∀ s ∈ fs, -1 ≤ s ∧ s < n) ∧ (0 < i → fs ≠ [])) ?_ ?_ ?_
      · exact ⟨[], y11, y12, y13, rfl, gc2, ef13, List.nodup_nil, Nat.zero_le _, fun s h => (nomatch h), fun h => absurd h (by omega)⟩
      · rintro t σ H14 ht ⟨fs, y11, y12, y13, rfl, g14', e14, hnd, hlen, hmem, hne⟩
        generalize hk3 : (0 : Int) + (t : Int) = k3
        have hpos : 0 < n * rare := Int.mul_pos hn0 hr3.1
        refine ⟨_, rfl, _, rfl, _, rfl, _, _, rfl, rfl, .inl ⟨by omega, by omega⟩, d, n * rare, rfl, g14'.dr, hpos, fun dr H15 g15' d0 d1 => ?_⟩
        refine ⟨_, rfl, _, rfl, _, _, rfl, rfl, ⟨hr3.1, by omega⟩, ?_⟩
        have hq0 : 0 ≤ dr / rare := Int.ediv_nonneg d0 (by omega)
        have hq1 : dr / rare < n := Int.ediv_lt_of_lt_mul hr3.1 d1
        have e15 := g15'.fr fl _ nfl e14
        have g1015 := g14'.trans g15'
        have fin : ∀ sc : Int, -1 ≤ sc → sc < n → ∀ (b : Bool), b = decide (sc ∈ fs) → True := fun _ _ _ _ _ => trivial
        refine ⟨fun σ H' => ∃ sc : Int, σ = [some (.ref d), some (.int most), some (.int sh), some (.int rare), some (.ref ml), some (.int n), some (.ref p), some (.int k), some (.ref ol), some (.int k2), some (.ref fl), some (.int k3), some (.int dr), some (.int sc), none, none] ∧ H' = H15 ∧ -1 ≤ sc ∧ sc < n, ?_, ?_⟩
        · refine ⟨_, rfl, .inl ⟨_, rfl, _, rfl, _, _, rfl, rfl, hr3.1, rfl, _, rfl, ?_⟩⟩
          refine ite2 (fun z => ?_) (fun z => ?_)
          · exact ⟨_, rfl, -1, rfl, rfl, by omega, by omega⟩
          · exact ⟨_, rfl, rfl, by omega, hq1⟩
        rintro σ H16 ⟨sc, rfl, rfl, c0, c1⟩
        refine ⟨_, rfl, _, rfl, fl, _, rfl, .inl (sqd e15), rfl, flat_ints' fs, _, rfl, ?_⟩
        by_cases hin : sc ∈ fs
        · refine ifF (by rw [notIn_int, decide_eq_true hin] <;> rfl) ?_
          exact ⟨fs, _, _, _, rfl, g1015, e15, hnd, by omega, hmem, fun _ e => by rw [e] at hin; cases hin⟩
        · refine ifT (by rw [notIn_int, decide_eq_false hin] <;> rfl) ?_
          refine ⟨_, rfl, .inl ⟨rfl, _, sqd e15⟩, _, rfl, fl, _, _, rfl, rfl, e15, big' (by rw [List.length_map]; omega), ?_⟩
          refine ⟨fs ++ [sc], _, _, _, rfl, g1015.put2 hfl nfl, by rw [upd_same, List.map_append]; rfl, ?_, ?_, ?_, fun _ => by simp⟩
          · exact List.nodup_append.mpr ⟨hnd, by simp, fun a ha b hb e => hin (by rw [← List.mem_singleton.mp hb, ← e]; exact ha)⟩
          · rw [List.length_append]
            exact Nat.add_le_add_right hlen 1
          · intro s hs
            rcases List.mem_append.mp hs with hs | hs
            · exact hmem s hs
            · rw [List.mem_singleton.mp hs]
              exact ⟨c0, c1⟩
      · rintro σ H14 ⟨fs, y11, y12, y13, rfl, g14', e14, hnd, hlen, hmem, hne⟩
        have hfl64 : fs.length ≤ 4 := by omega
        have e14o := g14'.fr ol _ nol e10
        refine ⟨_, rfl, .inl ⟨rfl, _, sqd e14o⟩, _, rfl, fl, fs, rfl, sqd e14, by omega, fun ns q1 hperm hpw hq1 => ?_⟩
        obtain ⟨Hd, ed, sd, kd⟩ := newH hq1 (.lst (ns.map V.int))
        rw [ed]
        refine ⟨q1, _, rfl, .inl ⟨sqd kd, fun t2 ht2 => ?_⟩⟩
        obtain ⟨He, ee, se, ke⟩ := newH ht2 (.tup (ns.map V.int))
        rw [ee]
        have sde := sd.trans se
        have eoe := sde _ _ e14o
        refine ⟨ol, zs, _, rfl, rfl, eoe, big' (by have := hzs.1; omega), ?_⟩
        have ge := g14'.trans (.same g14'.dr sde)
        have tpx : Tp H10 (upd He ol (.lst (zs ++ [.ref t2]))) := tp_put (ge.tp g10.dr) eoe
        have nt2 : t2 ≠ ol := fun e => by
          rw [e, sd _ _ e14o] at ht2
          cases ht2
        refine ⟨zs ++ [.ref t2], os ++ [ns], _, _, _, _, _, rfl, (g10.trans ge).put2 hol7 nol, upd_same, ?_, by rw [List.length_append, hos]; rfl, ?_⟩
        · refine (hzs.mono fun o x => OptIn.tp tpx).snoc ⟨t2, rfl, ?_⟩
          rw [upd_ne nt2]
          exact ke
        · intro o ho
          rcases List.mem_append.mp ho with ho | ho
          · exact hG2 o ho
          · rw [List.mem_singleton.mp ho]
            refine ⟨fun e => ?_, by have := hperm.length_eq; omega, fun s hs => hmem s (hperm.mem_iff.mp hs), asc_of hperm hnd hpw⟩
            rw [e] at hperm
            exact hne (by omega) hperm.symm.eq_nil
    · rintro σ H10 ⟨zs, os, y9, y10, y11, y12, y13, rfl, g10, e10, hzs, hos, hG2⟩
      have e10p := g10.fr p _ hpd e7
      have hxl := hxs.1
      refine ⟨_, rfl, .inl ⟨rfl, _, sqd e10p⟩, _, rfl, ol, zs, rfl, .inl ⟨sqd e10, fun t ht => ?_⟩⟩
      have st := same_new ht (.tup zs)
      have ept := st _ _ e10p
      have gt := (g7.trans g10).trans (.same (g7.trans g10).dr st)
      have ntp : t ≠ p := fun e => by
        rw [e, e10p] at ht
        cases ht
      refine ⟨p, xs, _, rfl, rfl, ept, big' (by omega), ?_⟩
      refine ⟨xs ++ [.ref t], A' ++ [os], some (.int k), some (.ref ol), _, _, _, _, _, rfl, gt.put2 hp0 hpd, ?_, upd_same, ?_, by rw [List.length_append, hA]; rfl, ?_⟩
      · rw [upd_ne npm.symm]
        exact st _ _ (g10.fr ml _ nml em7)
      · have tp : Tp H7 (upd (upd H10 t (.tup zs)) p (.lst (xs ++ [.ref t]))) := tp_put ((g10.tp g7.dr).trans (Tp.same st)) ept
        refine (hxs.mono fun o x => PosIn.tp tp).snoc ⟨t, zs, rfl, ?_, ?_⟩
        · rw [upd_ne ntp]
          exact upd_same
        · exact hzs.mono fun o x => OptIn.tp (tp_put (Tp.same st) ept)
      · intro o ho
        rcases List.mem_append.mp ho with ho | ho
        · exact hG o ho
        · rw [List.mem_singleton.mp ho]
          exact ⟨by omega, hG2⟩
  · rintro σ H7 ⟨xs, A', y7, y8, y9, y10, y11, y12, y13, rfl, g7, em7, e7, hxs, hA, hG⟩
    refine ⟨fun σ H' => ∃ (xs : List V) (A' : Ar) (y7 y8 y9 y10 y11 y12 y13 y14 y15 : Option V), σ = [some (.ref d), some (.int most), some (.int sh), some (.int rare), some (.ref ml), some (.int n), some (.ref p), y7, y8, y9, y10, y11, y12, y13, y14, y15] ∧ Go d H H' ∧ H' p = some (.lst xs) ∧ Each (PosIn H') A' xs ∧ A'.length = n.toNat ∧ ∀ os ∈ A', PosG n os, ?_, ?_⟩
    · refine ⟨_, rfl, _, _, rfl, rfl, _, rfl, ?_⟩
      refine ite2 (fun z => ?_) (fun z => iteF ⟨xs, A', _, _, _, _, _, _, _, _, _, rfl, g7, e7, hxs, hA, hG⟩)
      have hn0 : 0 < n := of_decide_eq_true z
      refine ⟨_, rfl, d, 8, rfl, g7.dr, by decide, fun u4 H9 g9 _ _ => ⟨rfl, _, rfl, ?_⟩⟩
      have e9 := g9.fr p _ hpd e7
      have hxs9 := hxs.mono fun o x => PosIn.tp (g9.tp g7.dr)
      have gg := g7.trans g9
      refine ite2 (fun z => ?_) (fun z => ⟨xs, A', _, _, _, _, _, _, _, _, _, rfl, gg, e9, hxs9, hA, hG⟩)
      refine ⟨_, rfl, _, rfl, d, n, rfl, g9.dr, hn0, fun at_ H10 g10 t0 t1 => ?_⟩
      refine ⟨_, rfl, d, 2, rfl, g10.dr, by decide, fun u H11 g11 u0 u1 => ⟨_, _, rfl, rfl, _, rfl, _, _, rfl, rfl, ⟨by omega, by omega, by omega, by omega, by omega⟩, fun q1 hq1 => ?_⟩⟩
      rw [rg_ints]
      have og1 := rg_good u0 u1 hn0 n46
      generalize (List.range (n - (0 - u)).toNat).map (fun i : Nat => (0 - u) + (i : Int)) = o1 at og1 ⊢
      obtain ⟨Ha, ea, sa, ka⟩ := newH hq1 (.tup (o1.map V.int))
      rw [ea]
      refine ⟨Nat.le_of_ble_eq_true rfl, fun lm hlm => ?_⟩
      obtain ⟨Hb, eb, sb, kb⟩ := newH hlm (.lst [.ref q1])
      rw [eb]
      refine ⟨5, rfl, by decide, by decide, fun D hD => ?_⟩
      refine lc_range (lo := 0) (n := 5) (fun (j : Nat) (H' : Hp) => ∃ (zs : List V) (os : Pos'), Same Hb H' ∧ H' D = some (.lst zs) ∧ Each (OptIn H') os zs ∧ os.length = j ∧ ∀ o ∈ os, OptG n o) ?_ ?_ ?_
      · exact ⟨[], [], same_new hD _, upd_same, .nil, rfl, fun o h => nomatch h⟩
      · rintro j H' hj ⟨zs, os, sj, ej, hzs, hos, hoG⟩
        refine ⟨rfl, yes_if ?_⟩
        refine ⟨_, rfl, _, rfl, _, _, rfl, rfl, .inl ⟨by omega, by omega⟩, _, rfl, _, _, rfl, rfl, .inl ⟨_, rfl, _, rfl, _, _, rfl, rfl, hn0, Nat.le_of_ble_eq_true rfl, fun t ht => ?_⟩⟩
        dsimp only
        generalize hv : ((0 + (j : Int)) * at_ + (0 + (j : Int))) % n = v
        have hv0 : 0 ≤ v := by rw [← hv]; exact Int.emod_nonneg _ (by omega)
        have hv1 : v < n := by rw [← hv]; exact Int.emod_lt_of_pos _ hn0
        obtain ⟨Hc, ec, sc, kc⟩ := newH ht (.tup [V.int v])
        rw [ec]
        have ntD : t ≠ D := fun e => by
          rw [e, ej] at ht
          cases ht
        have ejc := sc _ _ ej
        refine ⟨zs, ejc, big' (by have := hzs.1; omega), zs ++ [.ref t], os ++ [[v]], same_put (sj.trans sc) hD, upd_same, ?_, by rw [List.length_append, hos]; rfl, ?_⟩
        · refine (hzs.mono fun o x => OptIn.tp (tp_put (Tp.same sc) ejc)).snoc ⟨t, rfl, ?_⟩
          rw [upd_ne ntD]
          exact kc
        · intro o ho
          rcases List.mem_append.mp ho with ho | ho
          · exact hoG o ho
          · rw [List.mem_singleton.mp ho]
            exact .one (by omega) hv1
      · rintro H12 ⟨zs, os, sj, ej, hzs, hos, hoG⟩
        refine ⟨lm, D, _, _, rfl, rfl, sj _ _ kb, ej, big (by have := hzs.1; rw [List.length_singleton]; omega), fun mp hmp => ?_⟩
        obtain ⟨Hd, ed, sd, kd⟩ := newH hmp (.lst ([V.ref q1] ++ zs))
        rw [ed]
        have s1 := (sa.trans sb).trans (sj.trans sd)
        have gd : Go d H9 Hd := (g10.trans g11).trans (.same g11.dr s1)
        have hm1 : Each (OptIn Hd) ([o1] ++ os) ([V.ref q1] ++ zs) := (Each.cons ⟨q1, rfl, ((sb.trans sj).trans sd) _ _ ka⟩ .nil).app (hzs.mono fun o x => OptIn.tp (.same sd))
        have edp := gd.fr p _ hpd e9
        have hxd := hxs9.mono fun o x => PosIn.tp (gd.tp g9.dr)
        obtain ⟨os0, x0, hos0, hat, hin⟩ := hxd.atI t0 (by rw [hA]; omega)
        obtain ⟨b0, zs0, rfl, eb0, hzs0⟩ := hin
        have hG0 := hG os0 (List.mem_of_getElem? hos0)
        refine ⟨_, rfl, _, rfl, p, _, _, _, rfl, rfl, sqd edp, hat, _, rfl, mp, _, rfl, .inl ⟨sqd kd, fun t2 ht2 => ?_⟩⟩
        obtain ⟨He, ee, se, ke⟩ := newH ht2 (.tup ([V.ref q1] ++ zs))
        rw [ee]
        refine catA_of (se _ _ eb0) ke (by have h1 := hzs0.1; have h2 := hm1.1; have h3 := hG0.1; rw [h2, List.length_append, hos, List.length_singleton]; omega) fun pc Hf sf ef => ?_
        refine ⟨9, rfl, ?_⟩
        refine slA_of ef fun ps Hg sg eg => ?_
        rw [show cutV (zs0 ++ ([V.ref q1] ++ zs)) none (some 9) = (zs0 ++ ([V.ref q1] ++ zs)).take 9 from cut_pre (k := 9)] at eg
        have seg := (se.trans sf).trans sg
        have egp := seg _ _ edp
        have hgg := gg.trans (gd.trans (.same gd.dr seg))
        have nps : ps ≠ p := fun e => by
          rw [e, egp] at eg
          cases eg
        refine ⟨_, rfl, _, rfl, p, _, _, _, rfl, rfl, egp, ixN_in t0 (by rw [hxd.1, hA]; omega), ?_⟩
        have tpp : Tp Hd (upd Hg p (.lst (xs.set at_.toNat (.ref ps)))) := tp_put (Tp.same seg) egp
        refine ⟨xs.set at_.toNat (.ref ps), A'.set at_.toNat ((os0 ++ ([o1] ++ os)).take 9), _, _, _, _, _, _, _, _, _, rfl, hgg.put2 hp0 hpd, upd_same, ?_, by rw [List.length_set]; exact hA, ?_⟩
        · refine (hxd.mono fun o x => PosIn.tp tpp).set _ ⟨ps, (zs0 ++ ([V.ref q1] ++ zs)).take 9, rfl, ?_, ?_⟩
          · rw [upd_ne nps]
            exact eg
          · exact ((hzs0.app hm1).take 9).mono fun o x => OptIn.tp tpp
        · intro o ho
          rcases List.mem_or_eq_of_mem_set ho with ho | rfl
          · exact hG o ho
          · refine ⟨by rw [List.length_take]; omega, fun w hw => ?_⟩
            have hw := List.mem_of_mem_take hw
            rcases List.mem_append.mp hw with hw | hw
            · exact hG0.2 w hw
            · rcases List.mem_append.mp hw with hw | hw
              · rw [List.mem_singleton.mp hw]
                exact og1
              · exact hoG w hw
    rintro σ H8 ⟨xs, A', y7, y8, y9, y10, y11, y12, y13, y14, y15, rfl, g8, e8, hxs, hA, hG⟩
    refine ⟨_, rfl, p, xs, rfl, .inl ⟨sqd e8, fun t ht => ?_⟩⟩
    have st := same_new ht (.tup xs)
    refine q _ A' _ (g8.trans (.same g8.dr st)) ⟨t, xs, rfl, upd_same, hxs.mono fun os x => PosIn.tp (.same st)⟩ ⟨by omega, fun os h => ?_⟩ (by omega) (.inl (by omega))
    rw [show (A'.length : Int) = n by omega]
    exact hG os h
end
end NL

namespace NL
open PySem PySem.Spec PyProof.Rows L2
theorem ints_snoc2 (ps : List Int) (l : Int) : (ps ++ [l]).map V.int = ps.map V.int ++ [V.int l] := by
  rw [List.map_append]
  rfl
theorem at_last {α : Type} {x : α} {xs : List α} : atI (xs ++ [x]) (-1) = some x := by
  unfold atI
  rw [show ixN (xs ++ [x]).length (-1) = some xs.length by
    unfold ixN
    rw [if_neg (by decide), if_pos (by rw [List.length_append, List.length_singleton]; omega), List.length_append, List.length_singleton]
    congr 1
    omega]
  simp
theorem lc_pairs {K : PySem.W.Frag} {a b : Addr} {xs ys : List V} {g : TG} {tt : TT} {te : TE} {vs : List Nat} {σ : L2.St} {H1 : Hp} {D : Addr} {Qd : Hp → Prop} (n : Nat) (hn : n = min xs.length ys.length) (Pv : Nat → Hp → Prop) (h0 : Pv 0 (upd H1 D (.lst []))) (hq : ∀ i H, Pv i H → SqT K H a xs ∧ SqT K H b ys)
    (hs : ∀ (i : Nat) (x y : V) (t : Addr) (H : Hp), xs[i]? = some x → ys[i]? = some y → Pv i H → H t = none → g (.ref t) (wipe σ vs) (upd H t (.tup [x, y])) fun σ2 H2 => wipe σ2 vs = wipe σ vs ∧ tt σ2 H2 fun c H3 =>
      if c = true then te σ2 H3 fun z H4 => ∃ acc, H4 D = some (.lst acc) ∧ acc.length < sizeLine ∧ Pv (i + 1) (upd H4 D (.lst (acc ++ [z]))) else Pv (i + 1) H3) (hd : ∀ H, Pv n H → Qd H) :
    ∃ W : Nat → Nat → Hp → Prop, (∃ m, W 0 m (upd H1 D (.lst []))) ∧ ∀ i m H, W i m H →
      ((RZ.ItzT K a b).stop i H ∧ Qd H) ∨ ((RZ.ItzT K a b).go i H ∧ ∃ Nx : Hp → Prop, (∀ H', Nx H' → ∃ m', m' < m ∧ W (i + 1) m' H') ∧ ∀ x H', (RZ.ItzT K a b).yld i H x H' → g x (wipe σ vs) H' fun σ2 H2 => wipe σ2 vs = wipe σ vs ∧ tt σ2 H2 fun c H3 =>
        if c = true then te σ2 H3 fun z H4 => ∃ acc, H4 D = some (.lst acc) ∧ acc.length < sizeLine ∧ Nx (upd H4 D (.lst (acc ++ [z]))) else Nx H3) := by
  refine ⟨fun i m H => m + i = n ∧ Pv i H, ⟨n, rfl, h0⟩, ?_⟩
  rintro i m H ⟨hi, p⟩
  obtain ⟨qx, qy⟩ := hq i H p
  by_cases lt : i < n
  · have ex : xs[i]? = some xs[i] := List.getElem?_eq_getElem (by omega)
    have ey : ys[i]? = some ys[i] := List.getElem?_eq_getElem (by omega)
    refine .inr ⟨⟨xs, ys, _, _, qx, qy, ex, ey⟩, Pv (i + 1), fun H' p' => ⟨m - 1, by omega, by omega, p'⟩, fun v H' y => ?_⟩
    obtain ⟨t, x1, y1, rfl, ht, rfl, f1, f2⟩ := y
    exact hs i x1 y1 t H (f1 xs qx) (f2 ys qy) p ht
  · have e : i = n := by omega
    subst e
    exact .inl ⟨⟨xs, ys, qx, qy, by omega⟩, hd H p⟩
theorem op_catAK {X : Cx} {K : PySem.W.Frag} (h : X.K = K) : OpR X (binaryOp .Add) (rCatA K) := by subst h; exact op_catA
end NL

namespace NL
open PySem PySem.Spec PyProof.Rows L2
/-! ### two answers that are the same -/
def Alk : Nat → Hp → V → V → Prop
  | 0, _, _, _ => False
  | n + 1, H, u, v => (u = .non ∧ v = .non) ∨ (∃ s, u = .str s ∧ v = .str s) ∨ (∃ i, u = .int i ∧ v = .int i) ∨ ∃ a b xs ys, u = .ref a ∧ v = .ref b ∧ H a = some (.tup xs) ∧ H b = some (.tup ys) ∧ xs.length = ys.length ∧ ys.length ≤ 1000000 ∧
      ∀ (k : Nat) x y, xs[k]? = some x → ys[k]? = some y → Alk n H x y
theorem Alk.ints {H : Hp} {a b : Addr} {l : List Int} (ha : H a = some (.tup (l.map V.int))) (hb : H b = some (.tup (l.map V.int))) (hl : l.length ≤ 1000000) : Alk 2 H (.ref a) (.ref b) := by
  refine .inr (.inr (.inr ⟨a, b, _, _, rfl, rfl, ha, hb, rfl, by rw [List.length_map]; exact hl, fun k x y hx hy => ?_⟩))
  rw [hx] at hy
  cases hy
  rw [List.getElem?_map] at hx
  obtain ⟨i, _, rfl⟩ := Option.map_eq_some_iff.mp hx
  exact .inr (.inr (.inl ⟨i, rfl, rfl⟩))
section
variable {P : Program} {w : World} {K : PySem.W.Frag} {mg : Str → Option Value} {base : Heap}
def spSame (n : Nat) : Sp := fun vs H Q _ => ∃ u v : V, vs = [u, v] ∧ Alk n H u v ∧ Q (.bl true) H
theorem ok_law_same (T : Txt K mg) : ∀ n : Nat, FnOk P w K mg base CX0 (n + 1) T.a_law_same T.d_law_same P_law_same (spSame n)
  | 0 => by
    have no : ∀ vs H Q E, ¬ spSame 0 vs H Q E := fun vs H Q E ⟨u, v, _, h, _⟩ => h
    exact ⟨fun vs H Q E h => absurd h (no vs H Q E), fun A outer s H args us vs Q E _ _ _ _ h => absurd h (no vs H Q E)⟩
  | n + 1 => by
    have G_law_same := ok_law_same T n
    refine T.F_law_same.ok sc_law_same (fun vs H Q E h => ?_) (fun cdv A outer s H vs Q E hr h => ?_)
    · obtain ⟨u, v, rfl, _⟩ := h
      rfl
    obtain ⟨u, v, rfl, h, q⟩ := h
    refine ⟨_, (pss_cons (ps_if (pt_cmpR op_isN (pv 1) pe_non (nomark _))
    (pss_one (ps_ret (pe_cmpR op_isN (pv 0) pe_non (nomark _))))
    pss_nil)
    (pss_cons (ps_if (pt_val (pe_callB (call_isi) (by rfl) T.z_isinstance (by decide +kernel) (pa_cons (pv 1) (pa_cons (pe_bltn (v := .ty "str") (u := .type "str") (by rfl) T.z_str (by decide +kernel) rfl) pa_nil))))
    (pss_one (ps_ret (pe_and (pe_callB (call_isi) (by rfl) T.z_isinstance (by decide +kernel) (pa_cons (pv 0) (pa_cons (pe_bltn (v := .ty "str") (u := .type "str") (by rfl) T.z_str (by decide +kernel) rfl) pa_nil))) (pe_one (pe_cmpR op_eq (pv 0) (pv 1) (nomark _))))))
    pss_nil)
    (pss_cons (ps_if (pt_val (pe_callB (call_isi) (by rfl) T.z_isinstance (by decide +kernel) (pa_cons (pv 1) (pa_cons (pe_bltn (v := .ty "int") (u := .type "int") (by rfl) T.z_int (by decide +kernel) rfl) pa_nil))))
    (pss_one (ps_ret (pe_and (pe_callB (call_isi) (by rfl) T.z_isinstance (by decide +kernel) (pa_cons (pv 0) (pa_cons (pe_bltn (v := .ty "int") (u := .type "int") (by rfl) T.z_int (by decide +kernel) rfl) pa_nil))) (pe_and (pe_not (pe_callB (call_isi) (by rfl) T.z_isinstance (by decide +kernel) (pa_cons (pv 0) (pa_cons (pe_bltn (v := .ty "bool") (u := .type "bool") (by rfl) T.z_bool (by decide +kernel) rfl) pa_nil)))) (pe_one (pe_cmpR op_eq (pv 0) (pv 1) (nomark _)))))))
    pss_nil)
    (pss_cons (ps_if (PW.pt (pw_or (pt_not (pt_val (pe_callB (call_isi) (by rfl) T.z_isinstance (by decide +kernel) (pa_cons (pv 0) (pa_cons (pe_bltn (v := .ty "tuple") (u := .type "tuple") (by rfl) T.z_tuple (by decide +kernel) rfl) pa_nil))))) (pw_or1 (pt_cmpR op_ne (pe_callB call_len_seq (by rfl) T.z_len PySem.boot_len (pa_cons (pv 0) pa_nil)) (pe_callB call_len_seq (by rfl) T.z_len PySem.boot_len (pa_cons (pv 1) pa_nil)) (nomark _)))))
    (pss_one (ps_ret pe_bl))
    pss_nil)
    (pss_cons (ps_for  PassesOwn.never rfl (pi_range1 (by rfl) T.z_range (pa_cons (pe_callB call_len_seq (by rfl) T.z_len PySem.boot_len (pa_cons (pv 1) pa_nil)) pa_nil)) (pg_name (i := 2) sc_law_same.nd rfl (Or.inl rfl))
    (pss_one (ps_if (pt_not (pt_val (pe_call G_law_same (hr.mono (by omega)) (by rfl) T.m_law_same T.F_law_same.kp T.b_law_same .nil pass0 (pa_cons (pe_ix ix_tup (pv 0) (pv 2) (fun _ _ => rfl)) (pa_cons (pe_ix ix_tup (pv 1) (pv 2) (fun _ _ => rfl)) pa_nil)))))
    (pss_one (ps_ret pe_bl))
    pss_nil)))
    (pss_one (ps_ret pe_bl))))))), ?_⟩
    refine ⟨_, rfl, rfl, _, rfl, ?_⟩
    rcases h with ⟨rfl, rfl⟩ | ⟨s, rfl, rfl⟩ | ⟨i, rfl, rfl⟩ | ⟨a, b, xs, ys, rfl, rfl, ea, eb, hl, hz, hall⟩
    · exact ifT (decide_eq_true rfl) ⟨_, rfl, rfl, boolE (decide_eq_true rfl) q⟩
    · refine ifF (decide_eq_false (fun e => nomatch e)) ?_
      refine ⟨_, rfl, _, _, .type "str", .type "str", true, rfl, .ty "str", .base (.str _), kit_ty (by decide +kernel), true, rfl, ?_⟩
      refine iteT ⟨_, rfl, _, _, .type "str", .type "str", true, rfl, .ty "str", .base (.str _), kit_ty (by decide +kernel), true, rfl, ?_⟩
      exact iteT ⟨_, rfl, _, rfl, rfl, boolE (decide_eq_true rfl) q⟩
    · refine ifF (decide_eq_false (fun e => nomatch e)) ?_
      refine ⟨_, rfl, _, _, .type "int", .type "str", false, rfl, .ty "str", .base (.int _), kit_ty (by decide +kernel), false, rfl, ?_⟩
      refine iteF ⟨_, rfl, _, _, .type "int", .type "int", true, rfl, .ty "int", .base (.int _), kit_ty (by decide +kernel), true, rfl, ?_⟩
      refine iteT ⟨_, rfl, _, _, .type "int", .type "int", true, rfl, .ty "int", .base (.int _), kit_ty (by decide +kernel), true, rfl, ?_⟩
      refine iteT ⟨_, rfl, _, _, .type "int", .type "bool", false, rfl, .ty "bool", .base (.int _), kit_ty (by decide +kernel), false, rfl, true, rfl, ?_⟩
      exact iteT ⟨_, rfl, _, rfl, rfl, boolE (decide_eq_true rfl) q⟩
    · refine ifF (decide_eq_false (fun e => nomatch e)) ?_
      refine ⟨_, rfl, _, _, .type "tuple", .type "str", false, rfl, .ty "str", .base (.tup eb), kit_ty (by decide +kernel), false, rfl, ?_⟩
      refine iteF ⟨_, rfl, _, _, .type "tuple", .type "int", false, rfl, .ty "int", .base (.tup eb), kit_ty (by decide +kernel), false, rfl, ?_⟩
      refine iteF ⟨_, rfl, _, _, .type "tuple", .type "tuple", true, rfl, .ty "tuple", .base (.tup ea), kit_ty (by decide +kernel), true, rfl, ?_⟩
      refine iteF ?_
      refine ⟨_, rfl, a, _, rfl, .inr (sqt ea), _, rfl, b, _, rfl, .inr (sqt eb), rfl, _, rfl, ?_⟩
      refine ifF (by rw [hl, decide_eq_true rfl] <;> rfl) ?_
      refine ⟨_, rfl, b, _, rfl, .inr (sqt eb), _, rfl, by omega, by omega, for_range (lo := 0) (n := ys.length) (fun j σ H' => ∃ y : Option V, σ = [some (.ref a), some (.ref b), y] ∧ H' = H) ?_ ?_ ?_⟩
      · exact ⟨none, rfl, rfl⟩
      · rintro j σ H' hj ⟨y, rfl, rfl⟩
        have hjx : xs[j]? = some xs[j] := List.getElem?_eq_getElem (by omega)
        have hjy : ys[j]? = some ys[j] := List.getElem?_eq_getElem hj
        have e0 : (0 : Int) + (j : Int) = (j : Int) := Int.zero_add _
        refine ⟨_, rfl, _, rfl, a, _, _, _, rfl, rfl, sqt ea, by rw [e0]; exact atI_nat hjx, _, rfl, _, rfl, b, _, _, _, rfl, rfl, sqt eb, by rw [e0]; exact atI_nat hjy, ?_⟩
        refine ⟨_, _, rfl, hall j _ _ hjx hjy, true, rfl, ?_⟩
        exact iteF ⟨_, rfl, rfl⟩
      · rintro σ H' ⟨y, rfl, rfl⟩
        exact q
end
end NL

set_option maxHeartbeats 4000000
namespace NL
open PySem PySem.Spec PyProof.Rows L2
/-! ### ascending lists -/
abbrev Asc (l : List Int) : Prop := l.Pairwise (· < ·)
theorem asc_ext : ∀ {l m : List Int}, Asc l → Asc m → (∀ x, x ∈ l ↔ x ∈ m) → l = m
  | [], [], _, _, _ => rfl
  | [], b :: m, _, _, h => by have := (h b).mpr List.mem_cons_self; cases this
  | a :: l, [], _, _, h => by have := (h a).mp List.mem_cons_self; cases this
  | a :: l, b :: m, hl, hm, h => by
    obtain ⟨hl1, hl2⟩ := List.pairwise_cons.mp hl
    obtain ⟨hm1, hm2⟩ := List.pairwise_cons.mp hm
    have e : a = b := by
      rcases List.mem_cons.mp ((h a).mp List.mem_cons_self) with e | e
      · exact e
      · rcases List.mem_cons.mp ((h b).mpr List.mem_cons_self) with e' | e'
        · exact e'.symm
        · have := hm1 a e
          have := hl1 b e'
          omega
    subst e
    rw [asc_ext hl2 hm2 fun x => ?_]
    constructor
    · intro hx
      rcases List.mem_cons.mp ((h x).mp (List.mem_cons_of_mem _ hx)) with e | e
      · have := hl1 x hx
        omega
      · exact e
    · intro hx
      rcases List.mem_cons.mp ((h x).mpr (List.mem_cons_of_mem _ hx)) with e | e
      · have := hm1 x hx
        omega
      · exact e
def insU (x : Int) : List Int → List Int
  | [] => [x]
  | a :: r => if x < a then x :: a :: r else if x = a then a :: r else a :: insU x r
theorem mem_insU {x y : Int} : ∀ {l : List Int}, y ∈ insU x l ↔ y = x ∨ y ∈ l
  | [] => by simp [insU]
  | a :: r => by
    unfold insU
    split
    · simp
    · split
      · rename_i h
        subst h
        simp
      · rw [List.mem_cons, mem_insU, List.mem_cons]
        constructor
        · rintro (h | h | h) <;> simp [h]
        · rintro (h | h | h) <;> simp [h]
theorem asc_insU {x : Int} : ∀ {l : List Int}, Asc l → Asc (insU x l)
  | [], _ => List.pairwise_singleton _ _
  | a :: r, h => by
    obtain ⟨h1, h2⟩ := List.pairwise_cons.mp h
    unfold insU
    split
    · rename_i hx
      refine List.pairwise_cons.mpr ⟨fun y hy => ?_, h⟩
      rcases List.mem_cons.mp hy with e | e
      · omega
      · have := h1 y e
        omega
    · split
      · exact h
      · refine List.pairwise_cons.mpr ⟨fun y hy => ?_, asc_insU h2⟩
        rcases mem_insU.mp hy with e | e
        · omega
        · exact h1 y e
def srt (l : List Int) : List Int := l.foldr insU []
theorem mem_srt {y : Int} : ∀ {l : List Int}, y ∈ srt l ↔ y ∈ l
  | [] => Iff.rfl
  | a :: r => by
    show y ∈ insU a (srt r) ↔ _
    rw [mem_insU, mem_srt, List.mem_cons]
theorem asc_srt : ∀ {l : List Int}, Asc (srt l)
  | [] => List.Pairwise.nil
  | a :: r => asc_insU asc_srt
theorem srt_id {l : List Int} (h : Asc l) : srt l = l := asc_ext asc_srt h fun _ => mem_srt
theorem srt_ext {l m : List Int} (h : ∀ x, x ∈ l ↔ x ∈ m) : srt l = srt m := asc_ext asc_srt asc_srt fun x => by rw [mem_srt, mem_srt, h]
theorem srt_is {l m : List Int} (hm : Asc m) (h : ∀ x, x ∈ m ↔ x ∈ l) : m = srt l := asc_ext hm asc_srt fun x => by rw [mem_srt, h]
theorem asc_filter {l : List Int} (p : Int → Bool) (h : Asc l) : Asc (l.filter p) := h.sublist List.filter_sublist
theorem srt_len : ∀ {l : List Int}, (srt l).length ≤ l.length
  | [] => Nat.le_refl _
  | a :: r => by
    have : ∀ {m : List Int}, (insU a m).length ≤ m.length + 1 := fun {m} => by
      induction m with
      | nil => exact Nat.le_refl _
      | cons b t ih =>
        unfold insU
        split
        · exact Nat.le_refl _
        · split
          · exact Nat.le_succ _
          · exact Nat.succ_le_succ ih
    have h1 := srt_len (l := r)
    have h2 := this (m := srt r)
    show (insU a (srt r)).length ≤ r.length + 1
    omega
/-- an ascending list from lo up to less than hi is short -/
theorem asc_short : ∀ {l : List Int} {lo hi : Int}, Asc l → (∀ x ∈ l, lo ≤ x ∧ x < hi) → lo ≤ hi → (l.length : Int) ≤ hi - lo
  | [], lo, hi, _, _, h => by show (0 : Int) ≤ _; omega
  | a :: r, lo, hi, h, hb, hlh => by
    obtain ⟨h1, h2⟩ := List.pairwise_cons.mp h
    have ha := hb a List.mem_cons_self
    have := asc_short (l := r) (lo := a + 1) (hi := hi) h2 (fun x hx => ⟨by have := h1 x hx; omega, (hb x (List.mem_cons_of_mem _ hx)).2⟩) (by omega)
    rw [List.length_cons]
    omega
/-! ### positions parted by their readings -/
def prt (rd : Int → Int) (ps : List Int) : List (List Int) := (srt (ps.map rd)).map fun r => ps.filter fun p => decide (rd p = r)
theorem prt_srt (rd : Int → Int) (ps : List Int) : prt rd (srt ps) = (srt (ps.map rd)).map fun r => srt (ps.filter fun p => decide (rd p = r)) := by
  unfold prt
  rw [show srt ((srt ps).map rd) = srt (ps.map rd) from srt_ext fun x => by simp only [List.mem_map, mem_srt]]
  refine List.map_congr_left fun r _ => asc_ext (asc_filter _ asc_srt) asc_srt fun x => ?_
  rw [mem_srt, List.mem_filter, List.mem_filter, mem_srt]
theorem mem_prt {rd : Int → Int} {ps g : List Int} (h : g ∈ prt rd ps) : ∃ p ∈ ps, g = ps.filter fun q => decide (rd q = rd p) := by
  obtain ⟨r, hr, rfl⟩ := List.mem_map.mp h
  obtain ⟨p, hp, rfl⟩ := List.mem_map.mp (mem_srt.mp hr)
  exact ⟨p, hp, rfl⟩
theorem prt_of {rd : Int → Int} {ps : List Int} {p : Int} (h : p ∈ ps) : (ps.filter fun q => decide (rd q = rd p)) ∈ prt rd ps := List.mem_map.mpr ⟨rd p, mem_srt.mpr (List.mem_map.mpr ⟨p, h, rfl⟩), rfl⟩
theorem prt_len {rd : Int → Int} {ps : List Int} : (prt rd ps).length ≤ ps.length := by
  unfold prt
  rw [List.length_map]
  have := srt_len (l := ps.map rd)
  rw [List.length_map] at this
  exact this
/-- a known set -/
structure KS (rd : Int → Int) (n : Int) (g : List Int) : Prop where
  ne : g ≠ []
  asc : Asc g
  mem : ∀ p ∈ g, 0 ≤ p ∧ p < n
  one : ∀ p ∈ g, ∀ q ∈ g, rd p = rd q
theorem prt_ks {rd : Int → Int} {n : Int} {ps : List Int} (ha : Asc ps) (hm : ∀ p ∈ ps, 0 ≤ p ∧ p < n) : ∀ g ∈ prt rd ps, KS rd n g := fun g hg => by
  obtain ⟨p, hp, rfl⟩ := mem_prt hg
  refine ⟨fun e => ?_, asc_filter _ ha, fun q hq => hm q (List.mem_filter.mp hq).1, fun x hx y hy => ?_⟩
  · have : p ∈ ps.filter fun q => decide (rd q = rd p) := List.mem_filter.mpr ⟨hp, decide_eq_true rfl⟩
    rw [e] at this
    cases this
  · rw [of_decide_eq_true (List.mem_filter.mp hx).2, of_decide_eq_true (List.mem_filter.mp hy).2]
theorem prt_nodup {rd : Int → Int} {ps : List Int} : (prt rd ps).Nodup := by
  unfold prt
  refine List.pairwise_map.mpr ?_
  have h : (srt (ps.map rd)).Pairwise fun a b => a ≠ b ∧ a ∈ ps.map rd := by
    refine List.Pairwise.imp_of_mem (R := (· < ·)) (fun {a b} ha _ hab => ⟨by omega, mem_srt.mp ha⟩) asc_srt
  refine h.imp fun {a b} hab e => ?_
  obtain ⟨p, hp, hpa⟩ := List.mem_map.mp hab.2
  have h1 : p ∈ ps.filter fun q => decide (rd q = a) := List.mem_filter.mpr ⟨hp, decide_eq_true hpa⟩
  rw [e] at h1
  have h2 := of_decide_eq_true (List.mem_filter.mp h1).2
  omega
/-! ### numbers of sets -/
def nr : List (List Int) → List Int → Nat
  | [], _ => 0
  | a :: r, g => if a = g then 0 else nr r g + 1
theorem nr_get : ∀ {S : List (List Int)} {g : List Int}, g ∈ S → S[nr S g]? = some g
  | [], g, h => by cases h
  | a :: r, g, h => by
    unfold nr
    by_cases e : a = g
    · rw [if_pos e, e]
      rfl
    · rw [if_neg e]
      rcases List.mem_cons.mp h with h | h
      · exact absurd h.symm e
      · rw [List.getElem?_cons_succ]
        exact nr_get h
theorem nr_lt {S : List (List Int)} {g : List Int} (h : g ∈ S) : nr S g < S.length := (List.getElem?_eq_some_iff.mp (nr_get h)).1
theorem nr_app : ∀ {S T : List (List Int)} {g : List Int}, g ∈ S → nr (S ++ T) g = nr S g
  | [], T, g, h => by cases h
  | a :: r, T, g, h => by
    rw [List.cons_append]
    unfold nr
    by_cases e : a = g
    · rw [if_pos e, if_pos e]
    · rw [if_neg e, if_neg e]
      rcases List.mem_cons.mp h with h | h
      · exact absurd h.symm e
      · rw [nr_app h]
theorem nr_new : ∀ {S : List (List Int)} {g : List Int}, g ∉ S → nr (S ++ [g]) g = S.length
  | [], g, _ => by simp [nr]
  | a :: r, g, h => by
    rw [List.cons_append]
    unfold nr
    rw [if_neg (fun e => h (by rw [e]; exact List.mem_cons_self)), nr_new (fun e => h (List.mem_cons_of_mem _ e))]
    rfl
theorem nr_inj {S : List (List Int)} {g h : List Int} (hg : g ∈ S) (hh : h ∈ S) (e : nr S g = nr S h) : g = h := by
  have h1 := nr_get hg
  have h2 := nr_get hh
  rw [e, h2] at h1
  exact (Option.some.inj h1).symm
theorem nr_at : ∀ {S : List (List Int)} {k : Nat} {g : List Int}, S.Nodup → S[k]? = some g → nr S g = k := fun {S k g} hS hk => by
  have h1 := nr_get (List.mem_of_getElem? hk)
  have a1 := (List.getElem?_eq_some_iff.mp h1)
  have a2 := (List.getElem?_eq_some_iff.mp hk)
  obtain ⟨b1, c1⟩ := a1
  obtain ⟨b2, c2⟩ := a2
  rcases Nat.lt_trichotomy (nr S g) k with hlt | he | hlt
  · exact absurd (c1.trans c2.symm) (List.pairwise_iff_getElem.mp hS _ _ b1 b2 hlt)
  · exact he
  · exact absurd (c2.trans c1.symm) (List.pairwise_iff_getElem.mp hS _ _ b2 b1 hlt)
def addS (S : List (List Int)) : List (List Int) → List (List Int)
  | [] => S
  | g :: r => addS (if g ∈ S then S else S ++ [g]) r
theorem addS_pre : ∀ {G S : List (List Int)}, ∃ T, addS S G = S ++ T
  | [], S => ⟨[], (List.append_nil _).symm⟩
  | g :: r, S => by
    unfold addS
    obtain ⟨T, hT⟩ := addS_pre (G := r) (S := if g ∈ S then S else S ++ [g])
    rw [hT]
    by_cases h : g ∈ S
    · exact ⟨T, by rw [if_pos h]⟩
    · exact ⟨[g] ++ T, by rw [if_neg h, List.append_assoc]⟩
theorem mem_addS {x : List Int} : ∀ {G S : List (List Int)}, x ∈ addS S G ↔ x ∈ S ∨ x ∈ G
  | [], S => by simp [addS]
  | g :: r, S => by
    unfold addS
    rw [mem_addS]
    by_cases h : g ∈ S
    · rw [if_pos h, List.mem_cons]
      constructor
      · rintro (e | e) <;> simp [e]
      · rintro (e | e | e)
        · exact .inl e
        · exact .inl (e ▸ h)
        · exact .inr e
    · rw [if_neg h, List.mem_append, List.mem_singleton, List.mem_cons, or_assoc]
theorem addS_nodup : ∀ {G S : List (List Int)}, S.Nodup → (addS S G).Nodup
  | [], S, h => h
  | g :: r, S, h => by
    unfold addS
    refine addS_nodup ?_
    by_cases e : g ∈ S
    · rw [if_pos e]
      exact h
    · rw [if_neg e]
      exact List.nodup_append.mpr ⟨h, by simp, fun a ha b hb q => e (by rw [← List.mem_singleton.mp hb, ← q]; exact ha)⟩
theorem addS_app (S G : List (List Int)) (g : List Int) : addS S (G ++ [g]) = if g ∈ addS S G then addS S G else addS S G ++ [g] := by
  induction G generalizing S with
  | nil => rfl
  | cons a r ih =>
    rw [List.cons_append]
    unfold addS
    exact ih _
/-! ### the known arena, step by step -/
def optOf (A : Ar) (p : Int) (i : Nat) : Opt := (A.getD p.toNat []).getD i []
def lenOf (A : Ar) (p : Int) : Nat := (A.getD p.toNat []).length
def aft (A : Ar) (K : List Int) (i : Nat) : List Int := K.flatMap fun p => optOf A p i
def succs (A : Ar) (K : List Int) (i : Nat) : List Int := srt (aft A K i)
def fol (A : Ar) (rd : Int → Int) (K : List Int) (i : Nat) : List (List Int) := prt rd ((succs A K i).filter fun p => !decide (p = -1))
def optK (A : Ar) (rd : Int → Int) (S : List (List Int)) (K : List Int) (i : Nat) : Opt := (if (-1 : Int) ∈ succs A K i then [-1] else []) ++ srt ((fol A rd K i).map fun g => ((nr S g : Nat) : Int))
def wid (A : Ar) : List Int → Nat
  | [] => 0
  | [p] => lenOf A p
  | p :: q :: r => min (lenOf A p) (wid A (q :: r))
theorem wid_le {A : Ar} : ∀ {K : List Int}, ∀ p ∈ K, wid A K ≤ lenOf A p
  | [], p, h => by cases h
  | [q], p, h => by rw [List.mem_singleton.mp h]; exact Nat.le_refl _
  | a :: q :: r, p, h => by
    unfold wid
    rcases List.mem_cons.mp h with h | h
    · rw [h]
      exact Nat.min_le_left _ _
    · exact Nat.le_trans (Nat.min_le_right _ _) (wid_le p h)
theorem wid_mem {A : Ar} : ∀ {K : List Int}, K ≠ [] → ∃ p ∈ K, wid A K = lenOf A p
  | [], h => absurd rfl h
  | [q], h => ⟨q, List.mem_cons_self, rfl⟩
  | a :: q :: r, h => by
    unfold wid
    obtain ⟨p, hp, e⟩ := wid_mem (A := A) (K := q :: r) (by simp)
    rcases Nat.le_total (lenOf A a) (wid A (q :: r)) with g | g
    · exact ⟨a, List.mem_cons_self, Nat.min_eq_left g⟩
    · exact ⟨p, List.mem_cons_of_mem _ hp, by rw [Nat.min_eq_right g, e]⟩
theorem wid_is {A : Ar} {K : List Int} {m : Nat} (h1 : ∀ p ∈ K, m ≤ lenOf A p) (h2 : ∃ p ∈ K, m = lenOf A p) : m = wid A K := by
  obtain ⟨p, hp, e⟩ := h2
  obtain ⟨q, hq, e2⟩ := wid_mem (A := A) (K := K) (fun e => by rw [e] at hp; cases hp)
  have := wid_le (A := A) p hp
  have := h1 q hq
  omega
/-- the sets behind the first w options of K -/
def rowS (A : Ar) (rd : Int → Int) (K : List Int) (S : List (List Int)) : Nat → List (List Int)
  | 0 => S
  | w + 1 => addS (rowS A rd K S w) (fol A rd K w)
def stp (A : Ar) (rd : Int → Int) (x : List (List Int) × Ar) : List (List Int) × Ar := match x.1[x.2.length]? with
  | none => x
  | some K => (rowS A rd K x.1 (wid A K), x.2 ++ [(List.range (wid A K)).map (optK A rd (rowS A rd K x.1 (wid A K)) K)])
def kn (A : Ar) (rd : Int → Int) (st : List Int) : Nat → List (List Int) × Ar
  | 0 => (prt rd st, [])
  | n + 1 => stp A rd (kn A rd st n)
section
variable {A : Ar} {rd : Int → Int} {st : List Int}
theorem rowS_pre {K : List Int} {S : List (List Int)} : ∀ w, ∃ T, rowS A rd K S w = S ++ T
  | 0 => ⟨[], (List.append_nil _).symm⟩
  | w + 1 => by
    obtain ⟨T, hT⟩ := rowS_pre (K := K) (S := S) w
    obtain ⟨T2, h2⟩ := addS_pre (G := fol A rd K w) (S := rowS A rd K S w)
    exact ⟨T ++ T2, by show addS _ _ = _; rw [h2, hT, List.append_assoc]⟩
theorem rowS_le {K : List Int} {S : List (List Int)} {v w : Nat} (h : v ≤ w) : ∃ T, rowS A rd K S w = rowS A rd K S v ++ T := by
  induction h with
  | refl => exact ⟨[], (List.append_nil _).symm⟩
  | step h ih =>
    obtain ⟨T, hT⟩ := ih
    obtain ⟨T2, h2⟩ := addS_pre (G := fol A rd K _) (S := rowS A rd K S _)
    exact ⟨T ++ T2, by show addS _ _ = _; rw [h2, hT, List.append_assoc]⟩
theorem rowS_fol {K : List Int} {S : List (List Int)} {i w : Nat} (h : i < w) : ∀ g ∈ fol A rd K i, g ∈ rowS A rd K S w := fun g hg => by
  obtain ⟨T, hT⟩ := rowS_le (A := A) (rd := rd) (K := K) (S := S) (show i + 1 ≤ w from h)
  rw [hT]
  exact List.mem_append_left _ (mem_addS.mpr (.inr hg))
theorem optK_app {S T : List (List Int)} {K : List Int} {i : Nat} (h : ∀ g ∈ fol A rd K i, g ∈ S) : optK A rd (S ++ T) K i = optK A rd S K i := by
  unfold optK
  rw [List.map_congr_left fun g hg => by rw [nr_app (h g hg)]]
/-- what holds of the sets found so far -/
structure KnI (A : Ar) (rd : Int → Int) (st : List Int) (S : List (List Int)) (F : Ar) : Prop where
  nd : S.Nodup
  ks : ∀ g ∈ S, KS rd (A.length : Int) g
  le : F.length ≤ S.length
  pre : ∃ T, S = prt rd st ++ T
  row : ∀ (k : Nat) (K : List Int), k < F.length → S[k]? = some K → F[k]? = some ((List.range (wid A K)).map (optK A rd S K)) ∧ ∀ i, i < wid A K → ∀ g ∈ fol A rd K i, g ∈ S
theorem lenOf_at {p : Int} {os : Pos'} (h : A[p.toNat]? = some os) : lenOf A p = os.length := by
  unfold lenOf
  rw [List.getD_eq_getElem?_getD, h]
  rfl
theorem optOf_at {p : Int} {i : Nat} {os : Pos'} {o : Opt} (h : A[p.toNat]? = some os) (h2 : os[i]? = some o) : optOf A p i = o := by
  unfold optOf
  rw [List.getD_eq_getElem?_getD, List.getD_eq_getElem?_getD, h, Option.getD_some, h2]
  rfl
theorem optOf_g (hG : ArG A) {p : Int} {i : Nat} (p0 : 0 ≤ p) (p1 : p < (A.length : Int)) (hi : i < lenOf A p) : ∃ os o, A[p.toNat]? = some os ∧ os[i]? = some o ∧ optOf A p i = o ∧ lenOf A p = os.length ∧ OptG (A.length : Int) o ∧ o ∈ os ∧ os ∈ A := by
  have hk : p.toNat < A.length := by omega
  have h1 : A[p.toNat]? = some A[p.toNat] := List.getElem?_eq_getElem hk
  have h3 := lenOf_at h1
  have h2 : A[p.toNat][i]? = some A[p.toNat][i] := List.getElem?_eq_getElem (by omega)
  exact ⟨_, _, h1, h2, optOf_at h1 h2, h3, (hG.2 _ (List.mem_of_getElem? h1)).2 _ (List.mem_of_getElem? h2), List.mem_of_getElem? h2, List.mem_of_getElem? h1⟩
theorem succs_mem (hG : ArG A) {K : List Int} {i : Nat} (hK : ∀ p ∈ K, 0 ≤ p ∧ p < (A.length : Int)) (hi : ∀ p ∈ K, i < lenOf A p) : ∀ s ∈ succs A K i, -1 ≤ s ∧ s < (A.length : Int) := fun s hs => by
  obtain ⟨p, hp, hs⟩ := List.mem_flatMap.mp (mem_srt.mp hs)
  obtain ⟨os, o, _, _, e, _, hO, _⟩ := optOf_g hG (hK p hp).1 (hK p hp).2 (hi p hp)
  rw [e] at hs
  exact hO.mem s hs
theorem fol_ks (hG : ArG A) {K : List Int} {i : Nat} (hK : KS rd (A.length : Int) K) (hi : i < wid A K) : ∀ g ∈ fol A rd K i, KS rd (A.length : Int) g :=
  prt_ks (asc_filter _ asc_srt) fun p hp => by
    obtain ⟨h1, h2⟩ := List.mem_filter.mp hp
    have := succs_mem hG hK.mem (fun p hp => Nat.lt_of_lt_of_le hi (wid_le p hp)) p h1
    have h3 : p ≠ -1 := by simpa using h2
    omega
theorem rowS_ks (hG : ArG A) {K : List Int} {S : List (List Int)} (hK : KS rd (A.length : Int) K) (hS : ∀ g ∈ S, KS rd (A.length : Int) g) : ∀ w, w ≤ wid A K → ∀ g ∈ rowS A rd K S w, KS rd (A.length : Int) g
  | 0, _, g, hg => hS g hg
  | w + 1, hw, g, hg => by
    rcases mem_addS.mp hg with h | h
    · exact rowS_ks hG hK hS w (by omega) g h
    · exact fol_ks hG hK (by omega) g h
theorem rowS_nodup {K : List Int} {S : List (List Int)} (hS : S.Nodup) : ∀ w, (rowS A rd K S w).Nodup
  | 0 => hS
  | w + 1 => addS_nodup (rowS_nodup hS w)
theorem kn_inv (hG : ArG A) (hs : Asc st) (hm : ∀ p ∈ st, 0 ≤ p ∧ p < (A.length : Int)) : ∀ n, KnI A rd st (kn A rd st n).1 (kn A rd st n).2
  | 0 => ⟨prt_nodup, prt_ks hs hm, Nat.zero_le _, ⟨[], (List.append_nil _).symm⟩, fun k K h => absurd h (Nat.not_lt_zero k)⟩
  | n + 1 => by
    have I := kn_inv hG hs hm n
    show KnI A rd st (stp A rd (kn A rd st n)).1 (stp A rd (kn A rd st n)).2
    generalize kn A rd st n = x at I
    obtain ⟨S, F⟩ := x
    have I : KnI A rd st S F := I
    unfold stp
    show KnI A rd st (match S[F.length]? with
      | none => (S, F)
      | some K => (rowS A rd K S (wid A K), F ++ [(List.range (wid A K)).map (optK A rd (rowS A rd K S (wid A K)) K)])).1 (match S[F.length]? with
      | none => (S, F)
      | some K => (rowS A rd K S (wid A K), F ++ [(List.range (wid A K)).map (optK A rd (rowS A rd K S (wid A K)) K)])).2
    cases hk : S[F.length]? with
    | none => exact I
    | some K =>
      have hK := I.ks K (List.mem_of_getElem? hk)
      have hlt := (List.getElem?_eq_some_iff.mp hk).1
      obtain ⟨T, hT⟩ := rowS_pre (A := A) (rd := rd) (K := K) (S := S) (wid A K)
      obtain ⟨T0, hT0⟩ := I.pre
      refine ⟨rowS_nodup I.nd _, rowS_ks hG hK I.ks _ (Nat.le_refl _), ?_, ⟨T0 ++ T, ?_⟩, fun k J hkl hJ => ?_⟩
      · show (F ++ [_]).length ≤ (rowS A rd K S (wid A K)).length
        rw [hT, List.length_append, List.length_append, List.length_singleton]
        have hlt : F.length < S.length := hlt
        omega
      · show rowS A rd K S (wid A K) = _
        have hT0 : S = prt rd st ++ T0 := hT0
        rw [hT, hT0, List.append_assoc]
      · have hkl : k < (F ++ [(List.range (wid A K)).map (optK A rd (rowS A rd K S (wid A K)) K)]).length := hkl
        have hJ : (rowS A rd K S (wid A K))[k]? = some J := hJ
        show (F ++ [(List.range (wid A K)).map (optK A rd (rowS A rd K S (wid A K)) K)])[k]? = some ((List.range (wid A J)).map (optK A rd (rowS A rd K S (wid A K)) J)) ∧ ∀ i, i < wid A J → ∀ g ∈ fol A rd J i, g ∈ rowS A rd K S (wid A K)
        rw [List.length_append, List.length_singleton] at hkl
        have hlt : F.length < S.length := hlt
        have hJS : S[k]? = some J := by
          rw [hT, List.getElem?_append_left (by omega)] at hJ
          exact hJ
        rcases Nat.lt_or_ge k F.length with h | h
        · obtain ⟨r1, r2⟩ := I.row k J h hJS
          refine ⟨?_, fun i hi g hg => by rw [hT]; exact List.mem_append_left _ (r2 i hi g hg)⟩
          rw [List.getElem?_append_left h, r1]
          congr 1
          refine List.map_congr_left fun i hi => ?_
          rw [hT, optK_app (r2 i (List.mem_range.mp hi))]
        · have e : k = F.length := by omega
          subst e
          have hk : S[F.length]? = some K := hk
          rw [hk] at hJS
          cases hJS
          refine ⟨?_, fun i hi g hg => rowS_fol hi g hg⟩
          rw [List.getElem?_append_right (Nat.le_refl _), Nat.sub_self]
          rfl
/-- the known arena and its sets -/
def IsKn (A : Ar) (rd : Int → Int) (st : List Int) (F : Ar) (S : List (List Int)) : Prop := ∃ n, kn A rd st n = (S, F) ∧ F.length = S.length
theorem stp_end {S : List (List Int)} {F : Ar} (h : F.length = S.length) : stp A rd (S, F) = (S, F) := by
  unfold stp
  show (match S[F.length]? with
    | none => (S, F)
    | some K => _) = _
  rw [List.getElem?_eq_none (by omega)]
theorem kn_stay {n : Nat} {S : List (List Int)} {F : Ar} (h : kn A rd st n = (S, F)) (he : F.length = S.length) : ∀ m, n ≤ m → kn A rd st m = (S, F) := fun m hm => by
  induction hm with
  | refl => exact h
  | step _ ih =>
    show stp A rd (kn A rd st _) = _
    rw [ih, stp_end he]
theorem IsKn.uniq {F F' : Ar} {S S' : List (List Int)} (h : IsKn A rd st F S) (h' : IsKn A rd st F' S') : F = F' ∧ S = S' := by
  obtain ⟨n, h1, h2⟩ := h
  obtain ⟨m, h3, h4⟩ := h'
  rcases Nat.le_total n m with g | g
  · have := kn_stay h1 h2 m g
    rw [h3] at this
    cases this
    exact ⟨rfl, rfl⟩
  · have := kn_stay h3 h4 n g
    rw [h1] at this
    cases this
    exact ⟨rfl, rfl⟩
theorem IsKn.inv (hG : ArG A) (hs : Asc st) (hm : ∀ p ∈ st, 0 ≤ p ∧ p < (A.length : Int)) {F : Ar} {S : List (List Int)} (h : IsKn A rd st F S) : KnI A rd st S F ∧ F.length = S.length := by
  obtain ⟨n, h1, h2⟩ := h
  have := kn_inv (rd := rd) hG hs hm n
  rw [h1] at this
  exact ⟨this, h2⟩
end
end NL

set_option maxHeartbeats 4000000
namespace NL
open PySem PySem.Spec PyProof.Rows L2
/-! ### {tuple: value for ..} -/
theorem gx_dset {X : Cx} {pins : List (Addr × Obj)} {σ : L2.St} {H Hn : Hp} {s : Shared} {E : Value → Shared → Prop} {D : Addr} {y v : V} {u r : Value} {Q : Unit → Shared → Prop} (hu : X.A.units + 1 < cLine) (I : Inv X pins σ H s) (g : ∃ kvs k b, H D = some (.dT kvs) ∧ y = .ref b ∧ H b = some (.tup (k.map kV)) ∧ kvs.length < sizeLine ∧ Hn = upd H D (.dT (putK kvs k v)))
    (ry : RelV y u) (rv : RelV v r) (h : ∀ s', Inv X pins σ Hn s' → Q () s') : wpAny (model X.prog X.w) X.A (dictSet D u r) Q E s := by
  obtain ⟨kvs, k, b, eD, rfl, eb, hl, rfl⟩ := g
  cases (show u = Value.ref b from ry)
  obtain ⟨z1, z2, ents, z3, z4⟩ := dt_of I.hok eD
  have l1 : ents.length ≤ sizeLine := (Paired.length z3) ▸ z1
  have l2 : (putK kvs k v).length ≤ sizeLine := Nat.le_trans (length_putK kvs k v) hl
  refine wpAny_dictSet_heap (hsz := l1) (show X.A.units < cLine by omega) (key_of I.hok eb) z4 fun g2 ⟨q, es, ep, y1, y2, y3, y4, _, y5⟩ sb => h _ ?_
  refine d_write I (eD ▸ True.intro) sb ⟨q, y1⟩ ⟨l2, z2, _, (z3.put k eb rv).keeps fun c ys ec => ?_, q, es, ep, y1, y2, y3, y4, y5⟩
  exact (upd_ne (ne_of ec eD (fun z => nomatch z))).trans ec
section
variable {X : Cx}
/-- {k: v for target in iter if ..}, keys tuples of ints: D the new dict -/
def tDcT (wi : TI) (g : TG) (tt : TT) (tk tv : TE) (vs : List Nat) : TE := fun σ H Q => wi σ H fun J G1 => ∀ D, G1 D = none → ∃ W : Nat → Nat → Hp → Prop, (∃ m, W 0 m (upd G1 D (.dT []))) ∧ ∀ i m G, W i m G →
  (J.stop i G ∧ Q (.ref D) G) ∨ (J.go i G ∧ ∃ Nx : Hp → Prop, (∀ G', Nx G' → ∃ m', m' < m ∧ W (i + 1) m' G') ∧ ∀ x G', J.yld i G x G' → g x (wipe σ vs) G' fun τ G2 => wipe τ vs = wipe σ vs ∧ tt τ G2 fun b G3 =>
    if b = true then tk τ G3 fun y G4 => tv τ G4 fun z G5 => ∃ kvs k b Gn, Gn = upd G5 D (.dT (putK kvs k z)) ∧ y = .ref b ∧ G5 b = some (.tup (k.map kV)) ∧ G5 D = some (.dT kvs) ∧ kvs.length < sizeLine ∧ Nx Gn else Nx G3)
theorem pe_dcT {kx vx tg iter : Expr} {ifs : List Expr} {scope : Scope} {own : List (Str × Nat)} {pos : Pos} {wi : TI} {g : TG} {tt : TT} {tk tv : TE} (hu : X.A.units + 1 < cLine) (hc : X.calm = true) (hN : X.N.Nodup) (hi : PI X tg iter wi) (ok : BlkOk X.N X.env.scope scope own)
    (pgs : ∀ (s : Shared) (H : Hp) (C : Addr) (cl : List (Str × Addr)) (fp : List Addr), PG (X.blk s H scope (compEnvC scope cl C X.env) fp) tg g) (pts : ∀ (s : Shared) (H : Hp) (C : Addr) (cl : List (Str × Addr)) (fp : List Addr), PTs (X.blk s H scope (compEnvC scope cl C X.env) fp) ifs tt)
    (pks : ∀ (s : Shared) (H : Hp) (C : Addr) (cl : List (Str × Addr)) (fp : List Addr), PE (X.blk s H scope (compEnvC scope cl C X.env) fp) kx tk)
    (pvs : ∀ (s : Shared) (H : Hp) (C : Addr) (cl : List (Str × Addr)) (fp : List Addr), PE (X.blk s H scope (compEnvC scope cl C X.env) fp) vx tv) (hs : ∀ x, foldedSetIterable iter X.env x = pure x := by intro _; rfl) :
    PE X (.DictComp kx vx [⟨tg, iter, ifs, 0⟩] scope pos) (tDcT wi g tt tk tv (own.map (·.2))) := by
  refine ⟨fun pins z0 σ G0 Q J0 h => ?_⟩
  rw [arm_eval_DictComp]
  have cells : ∀ y ∈ scope.names, y.2 = .free → ∃ c, X.env.cells.lookup y.1 = some c := fun y hy e => (ok.free y hy e).elim (fun k => J0.ok.has _ (.inl k)) fun k => J0.ok.has _ (.inr k)
  refine wpAny_comprehension_free (use := none) rfl hs (closure_ok cells) ok.kind (fun y hy e => by rw [ok.uniq y hy, e]) (thn (hi.run pins z0 σ G0 _ J0 h) fun _ z1 k1 => thn k1 fun _ z2 k2 => ?_)
  obtain ⟨it, fp, tn, J, G2, rfl, J2, tu, st2, f2, q⟩ := k2
  refine wpAny_newObj_type (newEnv_comp ?_)
  generalize eD : z2.heap.objs.size = D
  have nD : G2 D = none := J2.hok.fresh (Nat.le_of_eq eD)
  obtain ⟨W, ⟨m0, w0⟩, turn⟩ := q D nD
  generalize e3 : ({ z2 with heap := z2.heap.push { cls := .type "dict", data := .dict #[] } } : Shared) = z3
  have hp3 : z3.heap = z2.heap.push { cls := .type "dict", data := .dict #[] } := e3 ▸ rfl
  have J3 : Inv X pins σ (upd G2 D (.dT [])) z3 := by
    subst e3 eD
    exact J2.laid (t' := z2.toks) (fun b o e => Heap.get?_push_of_some _ e) (Nat.le_refl _) (dt_empty z2.heap J2.big)
  have low : ∀ b ∈ fp, b < z2.heap.objs.size := fun b hb => (tu.obj _ _ st2 b hb).elim fun o e => Heap.lt_size e.1
  have f3 : ∀ b ∈ fp, FpOk X pins (upd G2 D (.dT [])) b ∧ b < z3.heap.objs.size := fun b hb => by
    have lt := low b hb
    refine ⟨⟨?_, (f2 b hb).2⟩, by rw [hp3, Heap.size_push]; exact Nat.lt_succ_of_lt lt⟩
    rw [upd_ne (by rw [← eD]; exact Nat.ne_of_lt lt)]
    exact (f2 b hb).1
  have st3 : tn 0 z3.heap := tu.keep _ _ _ st2 fun b _ o e => by rw [hp3]; exact Heap.get?_push_of_some _ e
  have J4 := block_start J3 ok hN f3
  have pg := pgs z3 (upd G2 D (.dT [])) z3.heap.objs.size (cellsFrom (z3.heap.objs.size + 1) scope.names (cloFrom X.env.cells scope.names [])) fp
  have pt := pts z3 (upd G2 D (.dT [])) z3.heap.objs.size (cellsFrom (z3.heap.objs.size + 1) scope.names (cloFrom X.env.cells scope.names [])) fp
  have pk := pks z3 (upd G2 D (.dT [])) z3.heap.objs.size (cellsFrom (z3.heap.objs.size + 1) scope.names (cloFrom X.env.cells scope.names [])) fp
  have pv' := pvs z3 (upd G2 D (.dT [])) z3.heap.objs.size (cellsFrom (z3.heap.objs.size + 1) scope.names (cloFrom X.env.cells scope.names [])) fp
  have none3 : ∀ b ∈ fp, (upd G2 D (.dT [])) b = none := fun b hb => (f3 b hb).1.1
  show codeAny _ _ (.compStart _ 0 (.ref it) (.ref D) (compEnvC scope (cellsFrom (z3.heap.objs.size + 1) scope.names (cloFrom X.env.cells scope.names [])) z3.heap.objs.size X.env)) (compPost (model X.prog X.w) X.A X.xe none _ (.ref D) z3.heap.objs.size) { z3 with heap := pushCells (z3.heap.push { cls := .type "dict", data := .dict #[] }) scope.names }
  generalize hce : compEnvC scope (cellsFrom (z3.heap.objs.size + 1) scope.names (cloFrom X.env.cells scope.names [])) z3.heap.objs.size X.env = ce at J4 pg pt pk pv' ⊢
  have ceL : ce.locals = z3.heap.objs.size := hce ▸ rfl
  generalize upd G2 D (.dT []) = G3 at J3 J4 pg pt pk pv' w0 none3 f3
  generalize e4 : ({ z3 with heap := pushCells (z3.heap.push { cls := .type "dict", data := .dict #[] }) scope.names } : Shared) = z4 at J4 ⊢
  have st4 : tn 0 z4.heap := tu.keep _ _ _ st3 fun b _ o e => by rw [← e4]; exact pushCells_keeps _ _ _ _ (Heap.get?_push_of_some _ e)
  have fixd : ∀ {τ : L2.St} {G : Hp} {z : Shared}, Inv (X.blk z3 G3 scope ce fp) [] τ G z → (∀ b ∈ fp, G b = none) → ∀ b ∈ fp, FpOk (X.blk z3 G3 scope ce fp) [] G b := fun {τ G z} I' hn b hb =>
    ⟨hn b hb, (I'.ok.exf b hb).1, I'.ok.exfs b hb, .inl hb, fun x c e => (I'.ok.exf b hb).2 x c e, fun p hp => by cases hp⟩
  refine (fun loop => codeAny_compStart_dict loop (tu.self X.A 0 _ _ _ st4 loop)) ?_
  refine compLoop_anyD (fun n z => ∃ i G, Inv (X.blk z3 G3 scope ce fp) [] (wipe σ (own.map (·.2))) G z ∧ tn i z.heap ∧ (∀ b ∈ fp, G b = none) ∧ W i n G) ?_ m0 ⟨0, G3, J4, st4, none3, w0⟩
  rintro n z5 ⟨i, G5, J5, st5, n5, w5⟩
  rcases turn i n G5 w5 with ⟨stop, qq⟩ | ⟨go, Nx, hNx, step⟩
  · refine thnF (tu.done (X.blk z3 G3 scope ce fp) rfl rfl rfl hc i [] z5 _ G5 (fun _ _ => False) J5 (fixd J5 n5) st5 stop) fun r z6 ⟨hr, J6⟩ => ?_
    subst hr
    have J7 : Inv X pins σ G5 z6 := J3.call' (ch := fp) J6.os J6.base J6.hok J6.bare fun b hb => ⟨(f3 b hb).1.2.2.2.1, (f3 b hb).1.2.1, (f3 b hb).1.2.2.2.2.1, (f3 b hb).1.2.2.2.2.2⟩
    have nC : G5 z3.heap.objs.size = none := ceL ▸ (show G5 ce.locals = none from J6.free)
    obtain ⟨m, hn, _⟩ := J6.loc
    have hn : z6.heap.Ns z3.heap.objs.size m := ceL ▸ (show z6.heap.Ns ce.locals m from hn)
    obtain ⟨g0, g1, g2, g3, g4, g5⟩ := J3.fpOk (Nat.le_refl _) nC
    exact ⟨m, hn, fun h'' sb => ⟨.ref D, G5, J7.turned (t' := z6.toks) (fun b o hb e => (sb.2 b hb).trans e) g0 g1 g3 g4 g5, rfl, qq⟩⟩
  · refine thnF (tu.item (X.blk z3 G3 scope ce fp) rfl rfl rfl hc i [] z5 _ G5 (fun _ _ => False) J5 (fixd J5 n5) st5 go) fun r z6 ⟨u, hr, k6⟩ => ?_
    subst hr
    refine thnF k6 fun _ z7 ⟨x, G7, J7, r7, y7, st7, n7⟩ => ?_
    refine thnF (pg.run _ z7 _ G7 x u _ (J7.pinned (fixd J7 n7) (tu.obj _ _ st7)) r7 (step x G7 y7)) fun _ z8 ⟨τ, G8, J8, hw, q8⟩ => ?_
    refine thnF (pt.run _ z8 τ G8 _ J8 q8) fun b z9 ⟨G9, J9, q9⟩ => ?_
    have fin : ∀ {z : Shared} {G : Hp}, Inv (X.blk z3 G3 scope ce fp) ([] ++ pinsAt fp z7.heap) τ G z → Nx G → ∃ m, m < n ∧ ∃ i G, Inv (X.blk z3 G3 scope ce fp) [] (wipe σ (own.map (·.2))) G z ∧ tn i z.heap ∧ (∀ b ∈ fp, G b = none) ∧ W i m G := fun {z G} I' nx => by
      obtain ⟨m', hm, w'⟩ := hNx G nx
      have kept : ∀ b ∈ fp, ∀ o, z7.heap.get? b = some o → z.heap.get? b = some o ∧ G b = none := fun b hb o e => by
        have z := I'.pin (b, o) (List.mem_append_right _ (List.mem_append_right _ (mem_pinsAt hb e)))
        exact ⟨z.1, z.2.1⟩
      refine ⟨m', hm, i + 1, G, (I'.unpinned (pins := [])).weak (by rw [← hw, wipe_length]) (fun j v e => (wipe_some (hw ▸ e : _)).1), tu.keep _ _ _ st7 fun b hb o e => (kept b hb o e).1, fun b hb => ?_, w'⟩
      obtain ⟨o, e, _⟩ := tu.obj _ _ st7 b hb
      exact (kept b hb o e).2
    cases b with
    | false =>
      simp only [Bool.false_eq_true, if_false] at q9 ⊢
      exact fin J9 q9
    | true =>
      simp only [if_true] at q9 ⊢
      refine thnF (pk.run _ z9 τ G9 _ J9 q9) fun _ z10 ⟨yk, G10, J10, r10, q10⟩ => thnF (pv'.run _ z10 τ G10 _ J10 q10) fun _ z11 ⟨yv, G11, J11, r11, kvs, k, b, Gn, eG, ek, eb, eD2, hz, nx⟩ => ?_
      exact gx_dset (X := X.blk z3 G3 scope ce fp) hu J11 ⟨kvs, k, b, eD2, ek, eb, hz, eG⟩ r10 r11 fun z12 J12 => fin J12 nx
end
end NL

set_option maxHeartbeats 4000000
namespace NL
open PySem PySem.Spec PyProof.Rows L2
/-! ### for over a list or a tuple -/
section
variable {X : Cx} {tg : Expr}
def iSeq (K : PySem.W.Frag) (tl : TE) : TI := fun σ H R => tl σ H fun x H1 => ∃ a, x = .ref a ∧ (((∃ xs, SqL K H1 a xs) ∧ R (Itl K a) H1) ∨ ((∃ xs, SqT K H1 a xs) ∧ R (Itt K a) H1))
theorem pi_seq {l : Expr} {tl : TE} (hl : PE X l tl) : PI X tg l (iSeq X.K tl) := by
  refine ⟨fun pins s σ H R I h => ?_⟩
  refine thn (hl.run pins s σ H _ I h) fun v s1 ⟨x, H1, I1, r1, q1⟩ => ?_
  obtain ⟨a, e, q⟩ := q1
  subst e
  cases r1
  rcases q with ⟨⟨xs, hq⟩, q⟩ | ⟨⟨xs, hq⟩, q⟩
  · obtain ⟨its, rv, p, hz⟩ := I1.list hq
    refine wpAny_pyIter_list p.isList ?_
    refine ⟨s1.heap.objs.size, [s1.heap.objs.size], _, _, H1, rfl, I1.kept (t' := s1.toks) fun b o e => Heap.get?_push_of_some _ e, turn_list a _, ⟨_, Heap.get?_push_size _ rfl, rfl, rfl⟩, fun b hb => ?_, q⟩
    have e : b = s1.heap.objs.size := by simpa using hb
    subst e
    exact I1.fpOk (Nat.le_refl _) (I1.hok.fresh (Nat.le_refl _))
  · obtain ⟨its, rv, p, hz⟩ := I1.tuple hq
    refine wpAny_pyIter_tuple (show s1.heap.IsTuple a its.toArray from p) ?_
    refine ⟨s1.heap.objs.size, [s1.heap.objs.size], _, _, H1, rfl, I1.kept (t' := s1.toks) fun b o e => Heap.get?_push_of_some _ e, turn_tuple a _, ⟨_, Heap.get?_push_size _ rfl, rfl, rfl⟩, fun b hb => ?_, q⟩
    have e : b = s1.heap.objs.size := by simpa using hb
    subst e
    exact I1.fpOk (Nat.le_refl _) (I1.hok.fresh (Nat.le_refl _))
end
end NL

set_option maxHeartbeats 4000000
namespace NL
open PySem PySem.Spec PyProof.Rows L2
theorem gx_seq {K : PySem.W.Frag} {a : Addr} {xs : List V} {H : Hp} {tl : TE} {σ : L2.St} {R : L2.It → Hp → Prop} (h : H a = some (.lst xs) ∨ H a = some (.tup xs)) (htl : ∀ C : V → Hp → Prop, C (.ref a) H → tl σ H C) (f : ∀ J : L2.It, Walk J xs.length (fun H' => H' a = H a) (YAt xs) → R J H) : iSeq K tl σ H R := by
  refine htl _ ⟨a, rfl, ?_⟩
  rcases h with h | h
  · have w : Walk (Itl K a) xs.length (fun H => SqL K H a xs) (YAt xs) := walk_list
    exact .inl ⟨⟨_, sqd h⟩, f _ ⟨fun i H' hi g => w.goes i H' hi (sqd (by rw [g]; exact h)), fun H' g => w.stops H' (sqd (by rw [g]; exact h)), fun i H' x H2 hi g => w.yields i H' x H2 hi (sqd (by rw [g]; exact h))⟩⟩
  · have w : Walk (Itt K a) xs.length (fun H => SqT K H a xs) (YAt xs) := walk_tup
    exact .inr ⟨⟨_, sqt h⟩, f _ ⟨fun i H' hi g => w.goes i H' hi (sqt (by rw [g]; exact h)), fun H' g => w.stops H' (sqt (by rw [g]; exact h)), fun i H' x H2 hi g => w.yields i H' x H2 hi (sqt (by rw [g]; exact h))⟩⟩
/-- for over a list or a tuple -/
theorem gx_forSeq {K : PySem.W.Frag} {a : Addr} {xs : List V} {g : TG} {tb : TS} {D : Ends} {σ : L2.St} {H : Hp} (h : H a = some (.lst xs) ∨ H a = some (.tup xs)) (Pv : Nat → L2.St → Hp → Prop) (h0 : Pv 0 σ H) (hG : ∀ i σ' H', Pv i σ' H' → H' a = H a)
    (hs : ∀ i x σ H, xs[i]? = some x → Pv i σ H → g x σ H fun σ2 H2 => tb { D with nx := Pv (i + 1), ct := Pv (i + 1), bk := D.nx } σ2 H2) (hd : ∀ σ H, Pv xs.length σ H → D.nx σ H) :
    ((∃ xs, SqL K H a xs) ∧ ∃ W : Nat → Nat → L2.St → Hp → Prop, (∃ m, W 0 m σ H) ∧ ∀ i m σ H, W i m σ H →
      ((Itl K a).stop i H ∧ D.nx σ H) ∨ ((Itl K a).go i H ∧ ∃ N : L2.St → Hp → Prop, (∀ σ' H', N σ' H' → ∃ m', m' < m ∧ W (i + 1) m' σ' H') ∧ ∀ x H', (Itl K a).yld i H x H' → g x σ H' fun σ2 H2 => tb { D with nx := N, ct := N, bk := D.nx } σ2 H2)) ∨
    ((∃ xs, SqT K H a xs) ∧ ∃ W : Nat → Nat → L2.St → Hp → Prop, (∃ m, W 0 m σ H) ∧ ∀ i m σ H, W i m σ H →
      ((Itt K a).stop i H ∧ D.nx σ H) ∨ ((Itt K a).go i H ∧ ∃ N : L2.St → Hp → Prop, (∀ σ' H', N σ' H' → ∃ m', m' < m ∧ W (i + 1) m' σ' H') ∧ ∀ x H', (Itt K a).yld i H x H' → g x σ H' fun σ2 H2 => tb { D with nx := N, ct := N, bk := D.nx } σ2 H2)) := by
  rcases h with h | h
  · exact .inl ⟨⟨_, sqd h⟩, for_list (xs := xs) Pv h0 (fun i σ' H' _ p => sqd (by rw [hG i σ' H' p]; exact h)) hs hd⟩
  · exact .inr ⟨⟨_, sqt h⟩, for_tup (xs := xs) Pv h0 (fun i σ' H' _ p => sqt (by rw [hG i σ' H' p]; exact h)) hs hd⟩
/-! ### readings -/
def rdF (R : List Int) (p : Int) : Int := R.getD p.toNat 0
theorem rdF_at {R : List Int} {p : Int} (h0 : 0 ≤ p) (h1 : p < (R.length : Int)) : atI (R.map V.int) p = some (V.int (rdF R p)) := by
  obtain ⟨k, rfl, hk⟩ : ∃ k : Nat, p = (k : Int) ∧ k < R.length := ⟨p.toNat, by omega, by omega⟩
  refine atI_nat ?_
  rw [List.getElem?_map, List.getElem?_eq_getElem hk]
  unfold rdF
  rw [Int.toNat_natCast, List.getD_eq_getElem?_getD, List.getElem?_eq_getElem hk]
  rfl
def grK (gs : List (Int × Addr)) : List (Key × V) := gs.map fun g => (Sum.inl g.1, V.ref g.2)
theorem grK_some : ∀ {gs : List (Int × Addr)} {r : Int} {v : V}, valV (grK gs) (Sum.inl r : Key) = some v → ∃ g ∈ gs, g.1 = r ∧ v = .ref g.2
  | [], r, v, h => by cases h
  | g :: t, r, v, h => by
    by_cases e : g.1 = r
    · have h : valV ((Sum.inl g.1, V.ref g.2) :: grK t) (Sum.inl r : Key) = some v := h
      rw [valV_pos (by rw [e])] at h
      exact ⟨g, List.mem_cons_self, e, (Option.some.inj h).symm⟩
    · have h : valV ((Sum.inl g.1, V.ref g.2) :: grK t) (Sum.inl r : Key) = some v := h
      rw [valV_neg (fun q => e (Sum.inl.inj q))] at h
      obtain ⟨g', h1, h2⟩ := grK_some h
      exact ⟨g', List.mem_cons_of_mem _ h1, h2⟩
theorem grK_none : ∀ {gs : List (Int × Addr)} {r : Int}, valV (grK gs) (Sum.inl r : Key) = none → r ∉ gs.map (·.1)
  | [], r, _, h => by cases h
  | g :: t, r, h, hm => by
    have h : valV ((Sum.inl g.1, V.ref g.2) :: grK t) (Sum.inl r : Key) = none := h
    by_cases e : g.1 = r
    · rw [valV_pos (by rw [e])] at h
      cases h
    · rw [valV_neg (fun q => e (Sum.inl.inj q))] at h
      rcases List.mem_cons.mp hm with h2 | h2
      · exact e h2.symm
      · exact grK_none h h2
theorem grK_get {gs : List (Int × Addr)} {g : Int × Addr} (hn : (gs.map (·.1)).Nodup) (hg : g ∈ gs) : valV (grK gs) (Sum.inl g.1 : Key) = some (.ref g.2) := by
  induction gs with
  | nil => cases hg
  | cons a t ih =>
    show valV ((Sum.inl a.1, V.ref a.2) :: grK t) (Sum.inl g.1 : Key) = _
    obtain ⟨h1, h2⟩ := List.nodup_cons.mp hn
    rcases List.mem_cons.mp hg with rfl | hg
    · exact valV_pos rfl
    · rw [valV_neg (fun q => h1 (List.mem_map.mpr ⟨g, hg, (Sum.inl.inj q).symm⟩))]
      exact ih h2 hg
/-- the groups at D: what was met of qs -/
structure GrS (rd : Int → Int) (H0 H : Hp) (D : Addr) (qs : List Int) (gs : List (Int × Addr)) : Prop where
  d : H D = some (.dK (grK gs))
  l : ∀ g ∈ gs, H g.2 = some (.lst ((qs.filter fun p => decide (rd p = g.1)).map V.int)) ∧ H0 g.2 = none ∧ g.2 ≠ D
  n1 : (gs.map (·.1)).Nodup
  n2 : (gs.map (·.2)).Nodup
  k : ∀ r, r ∈ gs.map (·.1) ↔ r ∈ qs.map rd
  s : Same H0 H
  few : gs.length ≤ qs.length
section
variable {rd : Int → Int} {H0 H : Hp} {D : Addr} {qs : List Int} {gs : List (Int × Addr)}
theorem gr_filter {p r : Int} : ((qs ++ [p]).filter fun q => decide (rd q = r)) = (qs.filter fun q => decide (rd q = r)) ++ if rd p = r then [p] else [] := by
  rw [List.filter_append, List.filter_cons, List.filter_nil]
  by_cases h : rd p = r
  · rw [if_pos h, if_pos (decide_eq_true h)]
  · rw [if_neg h, if_neg (by rw [decide_eq_false h]; exact Bool.false_ne_true)]
/-- one more of a group that is there -/
theorem GrS.old (G : GrS rd H0 H D qs gs) {l : Addr} (hl : H l = none) (hlD : l ≠ D) (p : Int) {g : Int × Addr} (hg : g ∈ gs) (e : g.1 = rd p) : GrS rd H0 (upd (upd H l (.lst [])) g.2 (.lst ((qs.filter fun q => decide (rd q = rd p)).map V.int ++ [V.int p]))) D (qs ++ [p]) gs := by
  have hgl : ∀ g' ∈ gs, g'.2 ≠ l := fun g' hg' z => by
    rw [← z, (G.l g' hg').1] at hl
    cases hl
  obtain ⟨_, hg0, hgD⟩ := G.l g hg
  refine ⟨by rw [upd_ne hgD.symm, upd_ne (Ne.symm hlD)]; exact G.d, fun g' hg' => ⟨?_, (G.l g' hg').2⟩, G.n1, G.n2, fun r => ?_, fun b o q => ?_, by rw [List.length_append]; exact Nat.le_trans G.few (Nat.le_add_right _ _)⟩
  · rw [gr_filter]
    by_cases h : g'.2 = g.2
    · have : g' = g := by
        obtain ⟨i, hi⟩ := List.getElem?_of_mem hg'
        obtain ⟨j, hj⟩ := List.getElem?_of_mem hg
        obtain ⟨i1, i2⟩ := List.getElem?_eq_some_iff.mp hi
        obtain ⟨j1, j2⟩ := List.getElem?_eq_some_iff.mp hj
        have hij : i = j := by
          have e1 : (gs.map (·.2))[i]'(by rw [List.length_map]; exact i1) = (gs.map (·.2))[j]'(by rw [List.length_map]; exact j1) := by
            rw [List.getElem_map, List.getElem_map, i2, j2, h]
          rcases Nat.lt_trichotomy i j with q | q | q
          · exact absurd e1 (List.pairwise_iff_getElem.mp G.n2 _ _ _ _ q)
          · exact q
          · exact absurd e1.symm (List.pairwise_iff_getElem.mp G.n2 _ _ _ _ q)
        subst hij
        rw [hi] at hj
        exact Option.some.inj hj
      rw [this, upd_same, e, if_pos rfl, List.map_append]
      rfl
    · have h3 : rd p ≠ g'.1 := fun q => h (by
        have h1 := grK_get G.n1 hg'
        have h2 := grK_get G.n1 hg
        rw [← q, ← e, h2] at h1
        exact (V.ref.inj (Option.some.inj h1)).symm)
      rw [upd_ne h, upd_ne (hgl g' hg'), if_neg h3, List.append_nil]
      exact (G.l g' hg').1
  · rw [G.k, List.map_append, List.mem_append]
    refine ⟨.inl, fun h => h.elim id fun h => ?_⟩
    have : r = rd p := by simpa using h
    rw [this, ← e]
    exact (G.k _).mp (List.mem_map.mpr ⟨g, hg, rfl⟩)
  · have h1 : b ≠ g.2 := fun z => by rw [z, hg0] at q; cases q
    have h2 : b ≠ l := fun z => by rw [z] at q; rw [G.s _ _ q] at hl; cases hl
    rw [upd_ne h1, upd_ne h2]
    exact G.s _ _ q
/-- the first of a group -/
theorem GrS.new (G : GrS rd H0 H D qs gs) {l : Addr} (hl : H l = none) (hlD : l ≠ D) (hD : H0 D = none) (p : Int) (hn : rd p ∉ gs.map (·.1)) : GrS rd H0 (upd (upd (upd H l (.lst [])) D (.dK (grK (gs ++ [(rd p, l)])))) l (.lst ([] ++ [V.int p]))) D (qs ++ [p]) (gs ++ [(rd p, l)]) := by
  have hl0 : H0 l = none := G.s.free hl
  have hgl : ∀ g' ∈ gs, g'.2 ≠ l := fun g' hg' z => by
    rw [← z, (G.l g' hg').1] at hl
    cases hl
  have nil : (qs.filter fun q => decide (rd q = rd p)) = [] := List.filter_eq_nil_iff.mpr fun q hq h => hn ((G.k _).mpr (List.mem_map.mpr ⟨q, hq, of_decide_eq_true h⟩))
  refine ⟨by rw [upd_ne hlD.symm, upd_same], fun g' hg' => ?_, ?_, ?_, fun r => ?_, fun b o q => ?_, by rw [List.length_append, List.length_append]; exact Nat.add_le_add_right G.few 1⟩
  · rcases List.mem_append.mp hg' with hg' | hg'
    · obtain ⟨h1, h2, h3⟩ := G.l g' hg'
      refine ⟨?_, h2, h3⟩
      have h4 : rd p ≠ g'.1 := fun q => hn (by rw [q]; exact List.mem_map.mpr ⟨g', hg', rfl⟩)
      rw [upd_ne (hgl g' hg'), upd_ne h3, upd_ne (hgl g' hg'), h1, gr_filter, if_neg h4, List.append_nil]
    · rw [List.mem_singleton.mp hg']
      refine ⟨?_, hl0, hlD⟩
      show upd _ l _ l = _
      rw [upd_same, gr_filter, if_pos rfl, nil]
      rfl
  · rw [List.map_append]
    refine List.nodup_append.mpr ⟨G.n1, by simp, fun a ha b hb e => hn ?_⟩
    have hb2 : b = rd p := by simpa using hb
    rw [← hb2, ← e]
    exact ha
  · rw [List.map_append]
    refine List.nodup_append.mpr ⟨G.n2, by simp, fun a ha b hb e => ?_⟩
    obtain ⟨g', hg', rfl⟩ := List.mem_map.mp ha
    exact hgl g' hg' (by rw [e]; simpa using hb)
  · rw [List.map_append, List.mem_append, G.k, List.map_append, List.mem_append]
    exact Iff.rfl
  · have h1 : b ≠ l := fun z => by rw [z, hl0] at q; cases q
    have h2 : b ≠ D := fun z => by rw [z, hD] at q; cases q
    rw [upd_ne h1, upd_ne h2, upd_ne h1]
    exact G.s _ _ q
end
section
variable {P : Program} {w : World} {K : PySem.W.Frag} {mg : Str → Option Value} {base : Heap}
def spParted : Sp := fun vs H Q _ => ∃ (pa ra : Addr) (ps R : List Int), vs = [.ref pa, .ref ra] ∧ (H pa = some (.lst (ps.map V.int)) ∨ H pa = some (.tup (ps.map V.int))) ∧ H ra = some (.tup (R.map V.int)) ∧ ps.length ≤ 60 ∧ (∀ p ∈ ps, 0 ≤ p ∧ p < (R.length : Int)) ∧
  ∀ l xs H', Same H H' → H l = none → H' l = some (.lst xs) → Each (OptIn H') (prt (rdF R) ps) xs → Q (.ref l) H'
theorem ok_parted (T : Txt K mg) : FnOk P w K mg base CX0 1 T.a_parted T.d_parted P_parted spParted := by
  refine T.F_parted.ok sc_parted (fun vs H Q E h => ?_) (fun cdv A outer s H vs Q E hr h => ?_)
  · obtain ⟨pa, ra, ps, R, rfl, _⟩ := h
    rfl
  obtain ⟨pa, ra, ps, R, rfl, hpa, hra, hpl, hpr, q⟩ := h
  refine ⟨_, (pss_cons (ps_set (i := 2) sc_parted.nd rfl (Or.inr rfl) pe_dnewK)
    (pss_cons (ps_for  PassesOwn.never rfl (pi_seq (pv 0)) (pg_name (i := 3) sc_parted.nd rfl (Or.inl rfl))
    (pss_one (ps_expr (pe_bm PySem.F.plainAttrs_list PySem.F.slot_list_append PySem.F.type_list_append mt_append (pe_dsetd (pv 2) (pe_ix ix_tup (pv 1) (pv 3) (fun _ _ => rfl)) (pe_lst pa_nil) ⟨rfl, rfl, rfl, rfl⟩) (pa_cons (pv 3) pa_nil)))))
    (pss_one (ps_ret (pe_lc (own := [("reading", 4)]) (g := (gName 4)) (tt := tYes) rfl sc_parted.nd (pi_list (pe_callB (call_sortedDI rfl) (by rfl) T.z_sorted (by decide +kernel) (pa_cons (pv 2) pa_nil))) (blkOk_by (N := N_parted) (sc := defScope s_parted) (by decide +kernel)) (fun _ _ _ _ _ => (pg_name (i := 4) sc_parted.nd rfl (Or.inl rfl))) (fun _ _ _ _ _ => pts_nil) (fun _ _ _ _ _ => (pe_callTy (call_tuple_ofK (K := K) rfl) (by rfl) T.z_tuple (by decide +kernel) (pa_cons (pe_dget (hu_of hr) (pv 2) (pv 4) (fun _ _ => rfl)) pa_nil)))))))), ?_⟩
  refine fun D hD => ?_
  obtain ⟨H1, e1, s1, k1⟩ := newH hD (.dK [])
  rw [e1]
  have hp1 : H1 pa = some (.lst (ps.map V.int)) ∨ H1 pa = some (.tup (ps.map V.int)) := hpa.elim (fun h => .inl (s1 _ _ h)) (fun h => .inr (s1 _ _ h))
  refine ⟨_, rfl, pa, rfl, ?_⟩
  refine gx_forSeq (K := K) (a := pa) (xs := ps.map V.int) hp1 (fun (j : Nat) (σ : L2.St) (H' : Hp) => ∃ (gs : List (Int × Addr)) (y3 y4 : Option V), σ = [some (.ref pa), some (.ref ra), some (.ref D), y3, y4] ∧ GrS (rdF R) H H' D (ps.take j) gs) ?_ ?_ ?_ ?_
  · exact ⟨[], none, none, rfl, k1, fun g hg => (nomatch hg), List.nodup_nil, List.nodup_nil, fun r => by simp, s1, Nat.zero_le _⟩
  · rintro j σ H' ⟨gs, y3, y4, rfl, G⟩
    rcases hpa with h | h
    · rw [G.s _ _ h, s1 _ _ h]
    · rw [G.s _ _ h, s1 _ _ h]
  · rintro j x σ H2 hx ⟨gs, y3, y4, rfl, G⟩
    rw [List.getElem?_map] at hx
    obtain ⟨p, hp, rfl⟩ := Option.map_eq_some_iff.mp hx
    obtain ⟨p0, p1⟩ := hpr p (List.mem_of_getElem? hp)
    have htk : ps.take (j + 1) = ps.take j ++ [p] := by rw [List.take_add_one, hp]; rfl
    have hjl := (List.getElem?_eq_some_iff.mp hp).1
    have hfl : ∀ r, ((ps.take j).filter fun q => decide (rdF R q = r)).length ≤ 60 := fun r => by
      have h1 := List.length_filter_le (fun q => decide (rdF R q = r)) (ps.take j)
      rw [List.length_take] at h1
      omega
    refine ⟨_, rfl, D, rfl, .inl ⟨_, .inl G.d⟩, _, rfl, _, rfl, ra, _, _, _, rfl, rfl, sqt (G.s _ _ hra), rdF_at p0 p1, Nat.zero_le _, fun l hl => ?_⟩
    have hlD : l ≠ D := fun z => by rw [z, G.d] at hl; cases hl
    refine ⟨_, Sum.inl (rdF R p), by rw [upd_ne (Ne.symm hlD)]; exact G.d, rfl, big' (by unfold grK; rw [List.length_map]; have := G.few; rw [List.length_take] at this; omega), fun v hv => ?_, fun hv => ?_⟩
    · obtain ⟨g, hg, e1, rfl⟩ := grK_some hv
      have hgl : g.2 ≠ l := fun z => by rw [← z, (G.l g hg).1] at hl; cases hl
      have hgk : upd H2 l (.lst []) g.2 = some (.lst (((ps.take j).filter fun q => decide (rdF R q = rdF R p)).map V.int)) := by rw [upd_ne hgl, (G.l g hg).1, e1]
      refine ⟨.inl ⟨rfl, _, sqd hgk⟩, _, rfl, g.2, _, _, rfl, rfl, hgk, big' (by rw [List.length_map]; have := hfl (rdF R p); omega), ?_⟩
      refine ⟨gs, _, _, rfl, ?_⟩
      rw [htk]
      exact G.old hl hlD p hg e1
    · have hn := grK_none hv
      rw [putK_new _ hv]
      have hl3 : upd (upd H2 l (.lst [])) D (.dK (grK gs ++ [(Sum.inl (rdF R p), V.ref l)])) l = some (.lst []) := by rw [upd_ne hlD, upd_same]
      refine ⟨.inl ⟨rfl, _, sqd hl3⟩, _, rfl, l, _, _, rfl, rfl, hl3, Nat.zero_lt_of_lt (big' (n := 1) (by decide)), ?_⟩
      refine ⟨gs ++ [(rdF R p, l)], _, _, rfl, ?_⟩
      rw [htk]
      have := G.new hl hlD hD p hn
      rw [show grK (gs ++ [(rdF R p, l)]) = grK gs ++ [(Sum.inl (rdF R p), V.ref l)] by unfold grK; rw [List.map_append]; rfl] at this
      exact this
  · rintro σ H2 ⟨gs, y3, y4, rfl, G⟩
    rw [List.length_map, List.take_length] at G
    have hgl := G.few
    refine ⟨_, rfl, D, _, gs.map (·.1), rfl, .inl G.d, by unfold grK; rw [List.map_map, List.map_map]; rfl, by rw [List.length_map]; omega, fun ys sp hperm hpw hsp => ?_⟩
    have hasc : Asc ys := asc_of hperm G.n1 hpw
    have hys : ys = srt (ps.map (rdF R)) := srt_is hasc fun x => by rw [hperm.mem_iff, G.k]
    obtain ⟨H3, e3, s3, k3⟩ := newH hsp (.lst (ys.map V.int))
    rw [e3]
    have s03 := G.s.trans s3
    have kD := s3 _ _ G.d
    have hyl : ys.length ≤ 60 := by rw [hperm.length_eq, List.length_map]; omega
    refine ⟨sp, rfl, ⟨_, sqd k3⟩, fun l hl => ?_⟩
    refine lc_list (K := K) (a := sp) (xs := ys.map V.int) (fun (j : Nat) (H' : Hp) => Same H3 H' ∧ ∃ xs, H' l = some (.lst xs) ∧ Each (OptIn H') ((ys.take j).map fun r => ps.filter fun p => decide (rdF R p = r)) xs) ?_ ?_ ?_ ?_
    · exact ⟨same_new hl _, [], upd_same, .nil⟩
    · rintro j H' _ ⟨s4, _⟩
      exact sqd (s4 _ _ k3)
    · rintro j x H4 hx ⟨s4, xs, k4, hxs⟩
      rw [List.getElem?_map] at hx
      obtain ⟨r, hr', rfl⟩ := Option.map_eq_some_iff.mp hx
      obtain ⟨g, hg, hgr⟩ := List.mem_map.mp (hperm.mem_iff.mp (List.mem_of_getElem? hr'))
      have hgl' := (G.l g hg).1
      have hgr : g.1 = r := hgr
      rw [hgr] at hgl'
      have hv := grK_get G.n1 hg
      rw [hgr] at hv
      have hxl := hxs.1
      have hjl := (List.getElem?_eq_some_iff.mp hr').1
      rw [List.length_map, List.length_take] at hxl
      refine ⟨rfl, yes_if ?_⟩
      refine ⟨_, rfl, _, rfl, D, V.ref g.2, rfl, .inl ⟨_, Sum.inl r, .inl (s4 _ _ kD), rfl, hv.symm⟩, g.2, _, rfl, .inl ⟨sqd (s4 _ _ (s3 _ _ hgl')), fun t ht => ?_⟩⟩
      have s5 := same_new ht (.tup ((ps.filter fun p => decide (rdF R p = r)).map V.int))
      have k5 := s5 _ _ k4
      refine ⟨xs, k5, big' (by omega), same_put (s4.trans s5) hl, xs ++ [.ref t], upd_same, ?_⟩
      have htl : t ≠ l := fun z => by rw [z, k4] at ht; cases ht
      rw [List.take_add_one, hr', List.map_append]
      refine (hxs.mono fun o x => OptIn.tp (tp_put (Tp.same s5) k5)).snoc ⟨t, rfl, ?_⟩
      rw [upd_ne htl]
      exact upd_same
    · rintro H4 ⟨s4, xs, k4, hxs⟩
      rw [List.length_map, List.take_length] at hxs
      refine q l xs H4 (s03.trans s4) (s03.free hl) k4 ?_
      unfold prt
      rw [← hys]
      exact hxs
end
end NL

set_option maxHeartbeats 4000000
namespace NL
open PySem PySem.Spec PyProof.Rows L2
/-! ### _successors_of -/
theorem insU_new {x : Int} : ∀ {l : List Int}, x ∉ l → (insU x l).length = l.length + 1
  | [], _ => rfl
  | a :: r, h => by
    unfold insU
    split
    · rfl
    · split
      · rename_i e
        exact absurd (e ▸ List.mem_cons_self) h
      · rw [List.length_cons, insU_new (fun q => h (List.mem_cons_of_mem _ q))]
        rfl
theorem srt_len_nd : ∀ {l : List Int}, l.Nodup → (srt l).length = l.length
  | [], _ => rfl
  | a :: r, h => by
    obtain ⟨h1, h2⟩ := List.nodup_cons.mp h
    show (insU a (srt r)).length = _
    rw [insU_new (fun q => h1 (mem_srt.mp q)), srt_len_nd h2]
    rfl
theorem nd_short {l : List Int} {lo hi : Int} (h : l.Nodup) (hb : ∀ x ∈ l, lo ≤ x ∧ x < hi) (hlh : lo ≤ hi) : (l.length : Int) ≤ hi - lo := by
  rw [← srt_len_nd h]
  exact asc_short asc_srt (fun x hx => hb x (mem_srt.mp hx)) hlh
theorem keys_put {kvs : List (Key × V)} {ks : List Int} (h : kvs.map (·.1) = ks.map fun x => (Sum.inl x : Key)) (p : Int) (v : V) : (putK kvs (Sum.inl p : Key) v).map (·.1) = (if p ∈ ks then ks else ks ++ [p]).map fun x => (Sum.inl x : Key) := by
  have hany : (kvs.any fun kv => decide (kv.1 = (Sum.inl p : Key))) = decide (p ∈ ks) := by
    have e : (kvs.any fun kv => decide (kv.1 = (Sum.inl p : Key))) = (kvs.map (·.1)).any fun k => decide (k = (Sum.inl p : Key)) := by
      rw [List.any_map]
      rfl
    rw [e, h, List.any_map]
    refine Bool.eq_iff_iff.mpr ?_
    rw [List.any_eq_true, decide_eq_true_iff]
    constructor
    · rintro ⟨x, hx, e⟩
      have := Sum.inl.inj (of_decide_eq_true e)
      exact this ▸ hx
    · intro hp
      exact ⟨p, hp, decide_eq_true rfl⟩
  unfold putK
  rw [hany]
  by_cases hp : p ∈ ks
  · rw [if_pos (decide_eq_true hp), if_pos hp, List.map_map, ← h]
    refine List.map_congr_left fun kv _ => ?_
    show (if kv.1 = _ then (kv.1, v) else kv).1 = kv.1
    split <;> rfl
  · rw [if_neg (by rw [decide_eq_false hp]; exact Bool.false_ne_true), if_neg hp, List.map_append, List.map_append, h]
    rfl
structure KsD (H0 H : Hp) (D : Addr) (acc : List Int) : Prop where
  d : ∃ (kvs : List (Key × V)) (ks : List Int), H D = some (.dK kvs) ∧ kvs.map (·.1) = ks.map (fun x => (Sum.inl x : Key)) ∧ ks.Nodup ∧ ∀ x, x ∈ ks ↔ x ∈ acc
  s : Same H0 H
section
variable {P : Program} {w : World} {K : PySem.W.Frag} {mg : Str → Option Value} {base : Heap}
def spSuccs : Sp := fun vs H Q _ => ∃ (av : V) (ka : Addr) (A : Ar) (Kk : List Int) (i : Nat), vs = [av, .ref ka, .int (i : Nat)] ∧ ArIn H A av ∧ ArG A ∧ A.length ≤ 46 ∧ H ka = some (.tup (Kk.map V.int)) ∧ (∀ p ∈ Kk, 0 ≤ p ∧ p < (A.length : Int)) ∧ (∀ p ∈ Kk, i < lenOf A p) ∧
  ∀ l H', Same H H' → H l = none → H' l = some (.lst ((succs A Kk i).map V.int)) → Q (.ref l) H'
theorem ok_successors_of (T : Txt K mg) : FnOk P w K mg base CX0 1 T.a_successors_of T.d_successors_of P_successors_of spSuccs := by
  refine T.F_successors_of.ok sc_successors_of (fun vs H Q E h => ?_) (fun cdv A outer s H vs Q E hr h => ?_)
  · obtain ⟨av, ka, A, Kk, i, rfl, _⟩ := h
    rfl
  obtain ⟨av, ka, A0, Kk, i, rfl, ⟨b0, zs, rfl, e0, hzs⟩, hG, hn, hka, hKr, hKi, q⟩ := h
  refine ⟨_, (pss_cons (ps_set (i := 3) sc_successors_of.nd rfl (Or.inl rfl) pe_dnewK)
    (pss_cons (ps_for  PassesOwn.never rfl (pi_tup (pv 1)) (pg_name (i := 4) sc_successors_of.nd rfl (Or.inl rfl))
    (pss_one (ps_for  PassesOwn.never rfl (pi_tup (pe_ix ix_tup (pe_ix ix_tup (pv 0) (pv 4) (fun _ _ => rfl)) (pv 2) (fun _ _ => rfl))) (pg_name (i := 5) sc_successors_of.nd rfl (Or.inl rfl))
    (pss_one (ps_dput (hu_of hr) (pv 3) (pv 5) pe_bl rfl)))))
    (pss_one (ps_ret (pe_callB (call_sortedDI rfl) (by rfl) T.z_sorted (by decide +kernel) (pa_cons (pv 3) pa_nil)))))), ?_⟩
  refine fun D hD => ?_
  obtain ⟨H1, e1, s1, k1⟩ := newH hD (.dK [])
  rw [e1]
  have sm : ∀ acc : List Int, (∀ x ∈ acc, -1 ≤ x ∧ x < (A0.length : Int)) → ∀ ks : List Int, ks.Nodup → (∀ x, x ∈ ks ↔ x ∈ acc) → ks.length ≤ 47 := fun acc ha ks hk hm => by
    have := nd_short (lo := -1) (hi := (A0.length : Int)) hk (fun x hx => ha x ((hm x).mp hx)) (by omega)
    omega
  have hin : ∀ j, ∀ x ∈ (Kk.take j).flatMap (fun p => optOf A0 p i), -1 ≤ x ∧ x < (A0.length : Int) := fun j x hx => by
    obtain ⟨p, hp, hx⟩ := List.mem_flatMap.mp hx
    have hp := List.mem_of_mem_take hp
    obtain ⟨os, o, _, _, e, _, hO, _⟩ := optOf_g hG (hKr p hp).1 (hKr p hp).2 (hKi p hp)
    rw [e] at hx
    exact hO.mem x hx
  refine ⟨_, rfl, ka, rfl, ⟨_, sqt (s1 _ _ hka)⟩, for_tup (K := K) (a := ka) (xs := Kk.map V.int) (fun (j : Nat) (σ : L2.St) (H' : Hp) => ∃ (y4 y5 : Option V), σ = [some (.ref b0), some (.ref ka), some (.int (i : Nat)), some (.ref D), y4, y5] ∧ KsD H H' D ((Kk.take j).flatMap fun p => optOf A0 p i)) ?_ ?_ ?_ ?_⟩
  · exact ⟨none, none, rfl, ⟨[], [], k1, rfl, List.nodup_nil, fun x => by simp⟩, s1⟩
  · rintro j σ H' _ ⟨y4, y5, rfl, G⟩
    exact sqt (G.s _ _ hka)
  · rintro j x σ H2 hx ⟨y4, y5, rfl, G⟩
    rw [List.getElem?_map] at hx
    obtain ⟨p, hp, rfl⟩ := Option.map_eq_some_iff.mp hx
    have hpm := List.mem_of_getElem? hp
    obtain ⟨p0, p1⟩ := hKr p hpm
    have hpi := hKi p hpm
    obtain ⟨os, o, hos, ho, eo, el, hO, _⟩ := optOf_g hG p0 p1 hpi
    obtain ⟨os', x, hos', hat, b1, ys, rfl, eb1, hys⟩ := hzs.atI p0 p1
    rw [hos] at hos'
    cases hos'
    obtain ⟨y, hy, b2, rfl, eb2⟩ := hys.at ho
    have hol : o.length ≤ 60 := hO.len
    refine ⟨_, rfl, _, rfl, b0, _, _, _, rfl, rfl, sqt (G.s _ _ e0), hat, _, rfl, b1, _, _, _, rfl, rfl, sqt (G.s _ _ eb1), atI_nat hy, b2, rfl, ⟨_, sqt (G.s _ _ eb2)⟩, ?_⟩
    refine for_tup (K := K) (a := b2) (xs := o.map V.int) (fun (t : Nat) (σ : L2.St) (H' : Hp) => ∃ (y5 : Option V), σ = [some (.ref b0), some (.ref ka), some (.int (i : Nat)), some (.ref D), some (.int p), y5] ∧ KsD H H' D ((Kk.take j).flatMap (fun p => optOf A0 p i) ++ o.take t)) ?_ ?_ ?_ ?_
    · exact ⟨_, rfl, by rw [List.take_zero, List.append_nil]; exact G⟩
    · rintro t σ H' _ ⟨y5, rfl, G2⟩
      exact sqt (G2.s _ _ eb2)
    · rintro t x σ H3 hx2 ⟨y5, rfl, G2⟩
      rw [List.getElem?_map] at hx2
      obtain ⟨c, hc, rfl⟩ := Option.map_eq_some_iff.mp hx2
      obtain ⟨kvs, ks, kD, hk1, hk2, hk3⟩ := G2.d
      have hkl := sm _ (fun x hx => by
        rcases List.mem_append.mp hx with hx | hx
        · exact hin j x hx
        · exact hO.mem x (List.mem_of_mem_take hx)) ks hk2 hk3
      have hkvl : kvs.length = ks.length := by
        have := congrArg List.length hk1
        rw [List.length_map, List.length_map] at this
        exact this
      refine ⟨_, rfl, _, rfl, D, _, rfl, DPut.k (k := Sum.inl c) kD (big' (by omega)), ?_⟩
      refine ⟨_, rfl, ⟨_, if c ∈ ks then ks else ks ++ [c], upd_same, keys_put hk1 c _, ?_, fun x => ?_⟩, same_put G2.s hD⟩
      · by_cases h : c ∈ ks
        · rw [if_pos h]
          exact hk2
        · rw [if_neg h]
          exact List.nodup_append.mpr ⟨hk2, by simp, fun a ha b hb e => h (by rw [← List.mem_singleton.mp hb, ← e]; exact ha)⟩
      · have h1 : x ∈ (if c ∈ ks then ks else ks ++ [c]) ↔ x ∈ ks ∨ x = c := by
          by_cases h : c ∈ ks
          · rw [if_pos h]
            exact ⟨.inl, fun q => q.elim id fun e => e ▸ h⟩
          · rw [if_neg h, List.mem_append, List.mem_singleton]
        rw [h1, hk3, List.take_add_one, hc, List.mem_append, List.mem_append, List.mem_append, or_assoc]
        simp
    · rintro σ H3 ⟨y5, rfl, G2⟩
      rw [List.length_map, List.take_length] at G2
      refine ⟨_, _, rfl, ?_⟩
      rw [List.take_add_one, hp, List.flatMap_append]
      simpa [eo] using G2
  · rintro σ H2 ⟨y4, y5, rfl, G⟩
    rw [List.length_map, List.take_length] at G
    obtain ⟨kvs, ks, kD, hk1, hk2, hk3⟩ := G.d
    have hkl := sm _ (fun x hx => hin Kk.length x (by rw [List.take_length]; exact hx)) ks hk2 hk3
    refine ⟨_, rfl, D, kvs, ks, rfl, .inl kD, hk1, by omega, fun ys l hperm hpw hl => ?_⟩
    have hasc : Asc ys := asc_of hperm hk2 hpw
    refine q l _ (G.s.trans (same_new hl _)) (G.s.free hl) ?_
    rw [upd_same]
    have : ys = succs A0 Kk i := srt_is hasc fun x => by rw [hperm.mem_iff, hk3]; rfl
    rw [this]
end
end NL

set_option maxHeartbeats 4000000
namespace NL
open PySem PySem.Spec PyProof.Rows L2
/-! ### known_arena -/
theorem dcT_it {J : L2.It} {n : Nat} {G : Hp → Prop} {Y : Nat → Hp → V → Hp → Prop} (w : Walk J n G Y) {g : TG} {tt : TT} {tk tv : TE} {vs : List Nat} {σ : L2.St} {H1 : Hp} {D : Addr} {Qd : Hp → Prop} (Pv : Nat → Hp → Prop) (h0 : Pv 0 (upd H1 D (.dT []))) (hq : ∀ i H, i ≤ n → Pv i H → G H)
    (hs : ∀ (i : Nat) (x : V) (H H' : Hp), i < n → Pv i H → Y i H x H' → g x (wipe σ vs) H' fun σ2 H2 => wipe σ2 vs = wipe σ vs ∧ tt σ2 H2 fun c H3 =>
      if c = true then tk σ2 H3 fun y H4 => tv σ2 H4 fun z H5 => ∃ kvs k b Gn, Gn = upd H5 D (.dT (putK kvs k z)) ∧ y = .ref b ∧ H5 b = some (.tup (k.map kV)) ∧ H5 D = some (.dT kvs) ∧ kvs.length < sizeLine ∧ Pv (i + 1) Gn else Pv (i + 1) H3) (hd : ∀ H, Pv n H → Qd H) :
    ∃ W : Nat → Nat → Hp → Prop, (∃ m, W 0 m (upd H1 D (.dT []))) ∧ ∀ i m H, W i m H →
      (J.stop i H ∧ Qd H) ∨ (J.go i H ∧ ∃ Nx : Hp → Prop, (∀ H', Nx H' → ∃ m', m' < m ∧ W (i + 1) m' H') ∧ ∀ x H', J.yld i H x H' → g x (wipe σ vs) H' fun σ2 H2 => wipe σ2 vs = wipe σ vs ∧ tt σ2 H2 fun c H3 =>
        if c = true then tk σ2 H3 fun y H4 => tv σ2 H4 fun z H5 => ∃ kvs k b Gn, Gn = upd H5 D (.dT (putK kvs k z)) ∧ y = .ref b ∧ H5 b = some (.tup (k.map kV)) ∧ H5 D = some (.dT kvs) ∧ kvs.length < sizeLine ∧ Nx Gn else Nx H3) := by
  refine ⟨fun i m H => m + i = n ∧ Pv i H, ⟨n, rfl, h0⟩, ?_⟩
  rintro i m H ⟨hi, p⟩
  have hG := hq i H (by omega) p
  by_cases lt : i < n
  · exact .inr ⟨w.goes i H lt hG, Pv (i + 1), fun H' p' => ⟨m - 1, by omega, by omega, p'⟩, fun v H' y => hs i v H H' lt p (w.yields i H v H' lt hG y)⟩
  · have e : i = n := by omega
    subst e
    exact .inl ⟨w.stops H hG, hd H p⟩
def gk (g : List Int) : List Key := g.map fun x => (Sum.inl x : Key)
theorem gk_V (g : List Int) : (gk g).map kV = g.map V.int := by
  unfold gk
  rw [List.map_map]
  rfl
theorem gk_inj : ∀ {g h : List Int}, gk g = gk h → g = h
  | [], [], _ => rfl
  | [], b :: h, e => by cases e
  | a :: g, [], e => by cases e
  | a :: g, b :: h, e => by
    have e : (Sum.inl a : Key) :: gk g = (Sum.inl b : Key) :: gk h := e
    injection e with e1 e2
    rw [Sum.inl.inj e1, gk_inj e2]
/-- the dict of the sets' numbers -/
def NumOk (kvs : List (List Key × V)) (S : List (List Int)) : Prop := ∀ g : List Int, valV kvs (gk g) = if g ∈ S then some (.int (nr S g : Nat)) else none
theorem NumOk.nil : NumOk [] [] := fun g => rfl
theorem NumOk.put {kvs : List (List Key × V)} {S : List (List Int)} (h : NumOk kvs S) {g : List Int} (hg : g ∉ S) : NumOk (putK kvs (gk g) (.int (S.length : Nat))) (S ++ [g]) := fun k => by
  rw [valV_put, h k]
  by_cases e : k = g
  · subst e
    rw [if_pos rfl, if_pos (by simp), nr_new hg]
  · rw [if_neg (fun q => e (gk_inj q))]
    by_cases hk : k ∈ S
    · rw [if_pos hk, if_pos (List.mem_append_left _ hk), nr_app hk]
    · rw [if_neg hk, if_neg (fun q => (List.mem_append.mp q).elim hk fun q => e (List.mem_singleton.mp q))]
def KnIn (H : Hp) (F : Ar) (S : List (List Int)) (v : V) : Prop := ∃ b x y, v = .ref b ∧ H b = some (.tup [x, y]) ∧ ArIn H F x ∧ PosIn H S y
/-- the objects of known_arena that change: the sets, their numbers, the options found -/
structure KnS (H0 H : Hp) (sl N ko : Addr) (S : List (List Int)) (F : Ar) : Prop where
  ls : ∃ xs, H sl = some (.lst xs) ∧ Each (OptIn H) S xs
  nm : ∃ kvs, H N = some (.dT kvs) ∧ NumOk kvs S ∧ kvs.length ≤ S.length
  lo : ∃ zs, H ko = some (.lst zs) ∧ Each (PosIn H) F zs
  f1 : H0 sl = none
  f2 : H0 N = none
  f3 : H0 ko = none
  s : Same H0 H
theorem KnS.same {H0 H H' : Hp} {sl N ko : Addr} {S : List (List Int)} {F : Ar} (h : KnS H0 H sl N ko S F) (s : Same H H') : KnS H0 H' sl N ko S F := by
  obtain ⟨xs, h1, h2⟩ := h.ls
  obtain ⟨kvs, h3, h4, h5⟩ := h.nm
  obtain ⟨zs, h6, h7⟩ := h.lo
  exact ⟨⟨xs, s _ _ h1, h2.mono fun o x => OptIn.tp (Tp.same s)⟩, ⟨kvs, s _ _ h3, h4, h5⟩, ⟨zs, s _ _ h6, h7.mono fun o x => PosIn.tp (Tp.same s)⟩, h.f1, h.f2, h.f3, h.s.trans s⟩
theorem KnS.ne {H0 H : Hp} {sl N ko : Addr} {S : List (List Int)} {F : Ar} (h : KnS H0 H sl N ko S F) : sl ≠ N ∧ N ≠ ko := by
  obtain ⟨xs, h1, _⟩ := h.ls
  obtain ⟨kvs, h3, _⟩ := h.nm
  obtain ⟨zs, h6, _⟩ := h.lo
  exact ⟨fun e => (by rw [e, h3] at h1; cases h1), fun e => (by rw [e, h6] at h3; cases h3)⟩
/-- a new set: its number, and behind the others -/
theorem KnS.add {H0 H : Hp} {sl N ko : Addr} {S : List (List Int)} {F : Ar} (h : KnS H0 H sl N ko S F) (hsk : sl ≠ ko) {g : List Int} (hg : g ∉ S) {xs : List V} {kvs : List (List Key × V)} {b : Addr} (hxs : H sl = some (.lst xs)) (hk : H N = some (.dT kvs)) (hb : H b = some (.tup (g.map V.int))) :
    KnS H0 (upd (upd H N (.dT (putK kvs (gk g) (.int (S.length : Nat))))) sl (.lst (xs ++ [.ref b]))) sl N ko (S ++ [g]) F := by
  obtain ⟨n1, n2⟩ := h.ne
  obtain ⟨xs', h1, h2⟩ := h.ls
  rw [hxs] at h1
  cases h1
  obtain ⟨kvs', h3, h4, h5⟩ := h.nm
  rw [hk] at h3
  cases h3
  obtain ⟨zs, h6, h7⟩ := h.lo
  have tp : Tp H (upd (upd H N (.dT (putK kvs (gk g) (.int (S.length : Nat))))) sl (.lst (xs ++ [.ref b]))) := fun a ys e => by
    rw [upd_ne (fun q => by rw [q, hxs] at e; cases e), upd_ne (fun q => by rw [q, hk] at e; cases e)]
    exact e
  refine ⟨⟨_, upd_same, (h2.mono fun o x => OptIn.tp tp).snoc ⟨b, rfl, tp _ _ hb⟩⟩, ⟨_, by rw [upd_ne n1.symm, upd_same], h4.put hg, ?_⟩, ⟨zs, by rw [upd_ne hsk.symm, upd_ne n2.symm]; exact h6, h7.mono fun o x => PosIn.tp tp⟩, h.f1, h.f2, h.f3, fun a o e => ?_⟩
  · have := length_putK kvs (gk g) (V.int (S.length : Nat))
    rw [List.length_append, List.length_singleton]
    omega
  · rw [upd_ne (fun q => by rw [q, h.f1] at e; cases e), upd_ne (fun q => by rw [q, h.f2] at e; cases e)]
    exact h.s _ _ e
/-- one more row of options -/
theorem KnS.row {H0 H : Hp} {sl N ko : Addr} {S : List (List Int)} {F : Ar} (h : KnS H0 H sl N ko S F) (hsk : sl ≠ ko) {os : Pos'} {zs : List V} {t : Addr} {ys : List V} (hzs : H ko = some (.lst zs)) (ht : H t = some (.tup ys)) (hys : Each (OptIn H) os ys) :
    KnS H0 (upd H ko (.lst (zs ++ [.ref t]))) sl N ko S (F ++ [os]) := by
  obtain ⟨n1, n2⟩ := h.ne
  obtain ⟨xs, h1, h2⟩ := h.ls
  obtain ⟨kvs, h3, h4, h5⟩ := h.nm
  obtain ⟨zs', h6, h7⟩ := h.lo
  rw [hzs] at h6
  cases h6
  have tp : Tp H (upd H ko (.lst (zs ++ [.ref t]))) := fun a ys e => by
    rw [upd_ne (fun q => by rw [q, hzs] at e; cases e)]
    exact e
  exact ⟨⟨xs, by rw [upd_ne hsk]; exact h1, h2.mono fun o x => OptIn.tp tp⟩, ⟨kvs, by rw [upd_ne n2]; exact h3, h4, h5⟩, ⟨_, upd_same, (h7.mono fun o x => PosIn.tp tp).snoc ⟨t, ys, rfl, tp _ _ ht, hys.mono fun o x => OptIn.tp tp⟩⟩, h.f1, h.f2, h.f3, fun a o e => by
    rw [upd_ne (fun q => by rw [q, h.f3] at e; cases e)]
    exact h.s _ _ e⟩
theorem KnS.put {H0 H : Hp} {sl N ko ol : Addr} {S : List (List Int)} {F : Ar} (h : KnS H0 H sl N ko S F) (h1 : sl ≠ ol) (h2 : N ≠ ol) (h3 : ko ≠ ol) (h0 : H0 ol = none) {ys zs : List V} (hy : H ol = some (.lst ys)) : KnS H0 (upd H ol (.lst zs)) sl N ko S F := by
  obtain ⟨xs, a1, a2⟩ := h.ls
  obtain ⟨kvs, a3, a4, a5⟩ := h.nm
  obtain ⟨zs', a6, a7⟩ := h.lo
  have tp : Tp H (upd H ol (.lst zs)) := tp_put Tp.refl hy
  exact ⟨⟨xs, by rw [upd_ne h1]; exact a1, a2.mono fun o x => OptIn.tp tp⟩, ⟨kvs, by rw [upd_ne h2]; exact a3, a4, a5⟩, ⟨zs', by rw [upd_ne h3]; exact a6, a7.mono fun o x => PosIn.tp tp⟩, h.f1, h.f2, h.f3, same_put h.s h0⟩
theorem gx_out {c : Bool} {ta tb : TE} {σ : L2.St} {H : Hp} {Q : VK} (R : Addr → Hp → Prop) (ha : c = true → ∀ C : VK, (∀ p H', R p H' → C (.ref p) H') → ta σ H C) (hb : c = false → ∀ C : VK, (∀ p H', R p H' → C (.ref p) H') → tb σ H C) (q : ∀ p H', R p H' → Q (.ref p) H') : if c = true then ta σ H Q else tb σ H Q := by
  cases c with
  | true => exact ifT rfl (ha rfl Q q)
  | false => exact ifF rfl (hb rfl Q q)
/-- at most 300 sets -/
def Few (rd : Int → Int) (n : Int) : Prop := ∀ S : List (List Int), S.Nodup → (∀ g ∈ S, KS rd n g) → S.length ≤ 300
section
variable {P : Program} {w : World} {K : PySem.W.Frag} {mg : Str → Option Value} {base : Heap}
def spKnown : Sp := fun vs H Q _ => ∃ (av : V) (ra sa : Addr) (A : Ar) (R st : List Int), vs = [av, .ref ra, .ref sa] ∧ ArIn H A av ∧ ArG A ∧ A.length ≤ 46 ∧ H ra = some (.tup (R.map V.int)) ∧ R.length = A.length ∧ H sa = some (.tup (st.map V.int)) ∧ Asc st ∧ (∀ p ∈ st, 0 ≤ p ∧ p < (A.length : Int)) ∧ Few (rdF R) (A.length : Int) ∧
  ∀ F S v H', Same H H' → IsKn A (rdF R) st F S → KnIn H' F S v → Q v H'
theorem ok_known_arena (T : Txt K mg) : FnOk P w K mg base CX0 2 T.aknown_arena T.dknown_arena Pknown_arena spKnown := by
  have G_parted := ok_parted (P := P) (w := w) (base := base) T
  have G_successors_of := ok_successors_of (P := P) (w := w) (base := base) T
  refine T.Fknown_arena.ok scknown_arena (fun vs H Q E h => ?_) (fun cdv A outer s H vs Q E hr h => ?_)
  · obtain ⟨av, ra, sa, A, R, st, rfl, _⟩ := h
    rfl
  obtain ⟨av, ra, sa, A0, R, st, rfl, hA, hG, hn, hra, hRl, hsa, hst, hsm, hfew, q⟩ := h
  obtain ⟨b0, zs0, rfl, e0, hzs0⟩ := id hA
  refine ⟨_, (pss_cons (ps_set (i := 3) scknown_arena.nd rfl (Or.inl rfl) (pe_call G_parted (hr.mono (by omega)) (by rfl) T.m_parted T.F_parted.kp T.b_parted .nil pass0 (pa_cons (pv 2) (pa_cons (pv 1) pa_nil))))
    (pss_cons (ps_set (i := 4) scknown_arena.nd rfl (Or.inr rfl) (pe_dcT (hu_of hr) (own := [("number", 5), ("known", 6)]) (g := (gTup K 2 (gCons (gName 5) (gCons (gName 6) gNil)))) (tt := tYes) rfl scknown_arena.nd (pi_enum (by rfl) T.z_enumerate (pa_cons (pv 3) pa_nil)) (blkOk_by (N := Nknown_arena) (sc := defScope sknown_arena) (by decide +kernel)) (fun _ _ _ _ _ => (pg_tup rfl (pgs_cons (pg_name (i := 5) scknown_arena.nd rfl (Or.inl rfl)) (pgs_cons (pg_name (i := 6) scknown_arena.nd rfl (Or.inl rfl)) pgs_nil)))) (fun _ _ _ _ _ => pts_nil) (fun _ _ _ _ _ => (pv 6)) (fun _ _ _ _ _ => (pv 5))))
    (pss_cons (ps_set (i := 7) scknown_arena.nd rfl (Or.inl rfl) (pe_lst pa_nil))
    (pss_cons (ps_while PassesOwn.never (pt_cmpR op_lt (pe_callB call_len_seq (by rfl) T.z_len PySem.boot_len (pa_cons (pv 7) pa_nil)) (pe_callB call_len_seq (by rfl) T.z_len PySem.boot_len (pa_cons (pv 3) pa_nil)) (nomark _))
    (pss_cons (ps_set (i := 6) scknown_arena.nd rfl (Or.inl rfl) (pe_ix ix_list (pv 3) (pe_callB call_len_seq (by rfl) T.z_len PySem.boot_len (pa_cons (pv 7) pa_nil)) (fun _ _ => rfl)))
    (pss_cons (ps_set (i := 8) scknown_arena.nd rfl (Or.inl rfl) (pe_lst pa_nil))
    (pss_cons (ps_for  PassesOwn.never rfl (pi_range1 (by rfl) T.z_range (pa_cons (pe_callB (cr_min rfl) (by rfl) T.z_min (by decide +kernel) (pa_cons (pe_lc (own := [("at", 10)]) (g := (gName 10)) (tt := tYes) rfl scknown_arena.nd (pi_tup (pv 6)) (blkOk_by (N := Nknown_arena) (sc := defScope sknown_arena) (by decide +kernel)) (fun _ _ _ _ _ => (pg_name (i := 10) scknown_arena.nd rfl (Or.inl rfl))) (fun _ _ _ _ _ => pts_nil) (fun _ _ _ _ _ => (pe_callB (call_len_seqK (K := K) rfl) (by rfl) T.z_len PySem.boot_len (pa_cons (pe_ix (ix_tupK (K := K) rfl) (pv 0) (pv 10) (fun _ _ => rfl)) pa_nil)))) pa_nil)) pa_nil)) (pg_name (i := 9) scknown_arena.nd rfl (Or.inl rfl))
    (pss_cons (ps_set (i := 11) scknown_arena.nd rfl (Or.inl rfl) (pe_call G_successors_of (hr.mono (by omega)) (by rfl) T.m_successors_of T.F_successors_of.kp T.b_successors_of .nil pass0 (pa_cons (pv 0) (pa_cons (pv 6) (pa_cons (pv 9) pa_nil)))))
    (pss_cons (ps_set (i := 12) scknown_arena.nd rfl (Or.inl rfl) (pe_call G_parted (hr.mono (by omega)) (by rfl) T.m_parted T.F_parted.kp T.b_parted .nil pass0 (pa_cons (pe_lc (own := [("at", 10)]) (g := (gName 10)) (tt := _) rfl scknown_arena.nd (pi_list (pv 11)) (blkOk_by (N := Nknown_arena) (sc := defScope sknown_arena) (by decide +kernel)) (fun _ _ _ _ _ => (pg_name (i := 10) scknown_arena.nd rfl (Or.inl rfl))) (fun _ _ _ _ _ => (pts_one (pt_cmpR op_ne (pv 10) (pe_un un_neg pe_int) (nomark _)))) (fun _ _ _ _ _ => (pv 10))) (pa_cons (pv 1) pa_nil))))
    (pss_cons (ps_for  PassesOwn.never rfl (pi_list (pv 12)) (pg_name (i := 13) scknown_arena.nd rfl (Or.inl rfl))
    (pss_one (ps_if (pt_cmp (pc_dnotin (hu_of hr) (pv 13) (pv 4)))
    (pss_cons (ps_dput (hu_of hr) (pv 4) (pv 13) (pe_callB call_len_seq (by rfl) T.z_len PySem.boot_len (pa_cons (pv 3) pa_nil)) rfl)
    (pss_one (ps_expr (pe_bm PySem.F.plainAttrs_list PySem.F.slot_list_append PySem.F.type_list_append mt_append (pv 3) (pa_cons (pv 13) pa_nil)))))
    pss_nil)))
    (pss_cons (ps_set (i := 14) scknown_arena.nd rfl (Or.inl rfl) (pe_ifExp (pt_cmpR op_in_seq (pe_un un_neg pe_int) (pv 11) (by rfl)) (pe_lst (pa_cons (pe_un un_neg pe_int) pa_nil)) (pe_lst pa_nil)))
    (pss_one (ps_expr (pe_bm PySem.F.plainAttrs_list PySem.F.slot_list_append PySem.F.type_list_append mt_append (pv 8) (pa_cons (pe_callTy call_tuple_of (by rfl) T.z_tuple (by decide +kernel) (pa_cons (pe_op op_cat (pv 14) (pe_callB (cr_sorted) (by rfl) T.z_sorted (by decide +kernel) (pa_cons (pe_lc (own := [("one", 13)]) (g := (gName 13)) (tt := tYes) rfl scknown_arena.nd (pi_list (pv 12)) (blkOk_by (N := Nknown_arena) (sc := defScope sknown_arena) (by decide +kernel)) (fun _ _ _ _ _ => (pg_name (i := 13) scknown_arena.nd rfl (Or.inl rfl))) (fun _ _ _ _ _ => pts_nil) (fun _ _ _ _ _ => (pe_dget (hu_of hr) (pv 4) (pv 13) (fun _ _ => rfl)))) pa_nil))) pa_nil)) pa_nil)))))))))
    (pss_one (ps_expr (pe_bm PySem.F.plainAttrs_list PySem.F.slot_list_append PySem.F.type_list_append mt_append (pv 7) (pa_cons (pe_callTy call_tuple_of (by rfl) T.z_tuple (by decide +kernel) (pa_cons (pv 8) pa_nil)) pa_nil))))))))
    (pss_one (ps_ret (pe_tup (pa_cons (pe_callTy call_tuple_of (by rfl) T.z_tuple (by decide +kernel) (pa_cons (pv 7) pa_nil)) (pa_cons (pe_callTy call_tuple_of (by rfl) T.z_tuple (by decide +kernel) (pa_cons (pv 3) pa_nil)) pa_nil))))))))), ?_⟩
  generalize hrd : rdF R = rd at *
  have hstl : st.length ≤ 60 := by
    have := asc_short (lo := 0) (hi := (A0.length : Int)) hst (fun x hx => hsm x hx) (by omega)
    omega
  refine ⟨_, rfl, _, rfl, sa, ra, st, R, rfl, .inr hsa, hra, hstl, fun p hp => by rw [hRl]; exact hsm p hp, fun sl xs H1 s1 hsl k1 hxs => ?_⟩
  rw [hrd] at hxs
  have hpl : (prt rd st).length ≤ 60 := Nat.le_trans prt_len hstl
  have hxl := hxs.1
  refine ⟨_, rfl, sl, xs, rfl, sqd k1, fun N hN => ?_⟩
  have hNsl : N ≠ sl := fun z => by rw [z, k1] at hN; cases hN
  refine dcT_it (walk_enum (K := K) (a := sl) (xs := xs)) (fun (j : Nat) (H' : Hp) => Same H1 H' ∧ ∃ kvs, H' N = some (.dT kvs) ∧ NumOk kvs ((prt rd st).take j) ∧ kvs.length ≤ j) ?_ ?_ ?_ ?_
  · exact ⟨same_new hN _, [], upd_same, by rw [List.take_zero]; exact .nil, Nat.le_refl _⟩
  · rintro j H' _ ⟨s2, _⟩
    exact sqd (s2 _ _ k1)
  · rintro j x H2 H3 hj ⟨s2, kvs, k2, hnum, hkl⟩ ⟨t, x1, y1, rfl, ht, rfl, hx1, hy1⟩
    cases hx1
    have hy1 : xs[j]? = some y1 := hy1
    obtain ⟨g, hg⟩ : ∃ g, (prt rd st)[j]? = some g := ⟨_, List.getElem?_eq_getElem (by omega)⟩
    obtain ⟨b, rfl, hb⟩ := hxs.2 j g y1 hg hy1
    obtain ⟨H4, e4, s4, k4⟩ := newH ht (.tup [.int (j : Nat), V.ref b])
    rw [e4]
    have s24 := s2.trans s4
    refine ⟨t, _, rfl, sqt k4, rfl, _, _, rfl, _, _, rfl, rfl, rfl, yes_if ?_⟩
    refine ⟨_, rfl, _, rfl, kvs, gk g, b, _, rfl, rfl, by rw [gk_V]; exact s24 _ _ hb, s4 _ _ k2, big' (by omega), same_put s24 hN, _, upd_same, ?_, ?_⟩
    · have hnot : g ∉ (prt rd st).take j := fun hm => by
        obtain ⟨i, hi⟩ := List.getElem?_of_mem hm
        have hil := (List.getElem?_eq_some_iff.mp hi).1
        rw [List.length_take] at hil
        rw [List.getElem?_take, if_pos (by omega)] at hi
        have h1 := nr_at prt_nodup hi
        have h2 := nr_at prt_nodup hg
        omega
      have htl : ((prt rd st).take j).length = j := by rw [List.length_take]; omega
      have := hnum.put hnot
      rw [htl] at this
      rw [List.take_add_one, hg]
      exact this
    · have := length_putK kvs (gk g) (V.int (j : Nat))
      omega
  rintro H2 ⟨s2, kvs0, k2, hnum0, hkl0⟩
  rw [hxl, List.take_length] at hnum0
  refine ⟨Nat.zero_le _, fun ko hko => ?_⟩
  obtain ⟨H3, e3, s3, k3⟩ := newH hko (.lst [])
  rw [e3]
  have hsl0 : H sl = none := hsl
  have s12 := s1.trans s2
  have KS0 : KnS H H3 sl N ko (prt rd st) [] := ⟨⟨xs, s3 _ _ (s2 _ _ k1), hxs.mono fun o x => OptIn.tp (Tp.same (s2.trans s3))⟩, ⟨kvs0, s3 _ _ k2, hnum0, by omega⟩, ⟨[], k3, .nil⟩, hsl0, s1.free hN, s12.free hko, s12.trans s3⟩
  have hslko : sl ≠ ko := fun z => by rw [← z, s2 _ _ k1] at hko; cases hko
  have hNko : N ≠ ko := fun z => by rw [← z, k2] at hko; cases hko
  refine ⟨fun m σ H' => ∃ (k : Nat) (S : List (List Int)) (F : Ar) (y5 y6 y8 y9 y10 y11 y12 y13 y14 : Option V), σ = [some (.ref b0), some (.ref ra), some (.ref sa), some (.ref sl), some (.ref N), y5, y6, some (.ref ko), y8, y9, y10, y11, y12, y13, y14] ∧ kn A0 rd st k = (S, F) ∧ KnS H H' sl N ko S F ∧ m = 300 - F.length, ⟨_, 0, prt rd st, [], _, _, _, _, _, _, _, _, _, rfl, rfl, KS0, rfl⟩, ?_⟩
  rintro m σ H4 ⟨k, S, F, y5, y6, y8, y9, y10, y11, y12, y13, y14, rfl, hk, Z, rfl⟩
  have I := kn_inv (rd := rd) hG hst hsm k
  rw [hk] at I
  have I : KnI A0 rd st S F := I
  have hS300 := hfew S I.nd I.ks
  obtain ⟨xs4, kl4, hxs4⟩ := Z.ls
  obtain ⟨zs4, ko4, hzs4⟩ := Z.lo
  have hxl4 := hxs4.1
  have hzl4 := hzs4.1
  have hle := I.le
  refine ⟨_, rfl, ko, _, rfl, .inl (sqd ko4), _, rfl, sl, _, rfl, .inl (sqd kl4), _, _, rfl, rfl, _, rfl, ?_⟩
  by_cases hlt : F.length < S.length
  rotate_left
  · refine ifF (decide_eq_false (by omega)) ?_
    refine ⟨_, rfl, ko, _, rfl, .inl ⟨sqd ko4, fun ta hta => ?_⟩⟩
    obtain ⟨H5, e5, s5, k5⟩ := newH hta (.tup zs4)
    rw [e5]
    refine ⟨_, rfl, sl, _, rfl, .inl ⟨sqd (s5 _ _ kl4), fun tb htb => ?_⟩⟩
    obtain ⟨H6, e6, s6, k6⟩ := newH htb (.tup xs4)
    rw [e6]
    refine ⟨Nat.le_of_ble_eq_true rfl, fun tc htc => ?_⟩
    obtain ⟨_, rfl, s7, k7⟩ := newH htc (.tup [.ref ta, .ref tb])
    have s57 := (s5.trans s6).trans s7
    refine q F S _ _ (Z.s.trans s57) ⟨k, hk, by omega⟩ ⟨tc, _, _, rfl, ?_, ⟨ta, zs4, rfl, ?_, hzs4.mono fun o x => PosIn.tp (Tp.same s57)⟩, ⟨tb, xs4, rfl, ?_, hxs4.mono fun o x => OptIn.tp (Tp.same s57)⟩⟩
    · exact k7
    · exact s7 _ _ (s6 _ _ k5)
    · exact s7 _ _ k6
  refine ifT (decide_eq_true (by omega)) ?_
  obtain ⟨Kk, hKk⟩ : ∃ Kk, S[F.length]? = some Kk := ⟨_, List.getElem?_eq_getElem hlt⟩
  have hKS := I.ks Kk (List.mem_of_getElem? hKk)
  have hnext : kn A0 rd st (k + 1) = (rowS A0 rd Kk S (wid A0 Kk), F ++ [(List.range (wid A0 Kk)).map (optK A0 rd (rowS A0 rd Kk S (wid A0 Kk)) Kk)]) := by
    show stp A0 rd (kn A0 rd st k) = _
    rw [hk]
    unfold stp
    show (match S[F.length]? with
      | none => (S, F)
      | some Kk => (rowS A0 rd Kk S (wid A0 Kk), F ++ [(List.range (wid A0 Kk)).map (optK A0 rd (rowS A0 rd Kk S (wid A0 Kk)) Kk)])) = _
    rw [hKk]
  have I2 := kn_inv (rd := rd) hG hst hsm (k + 1)
  rw [hnext] at I2
  have I2 : KnI A0 rd st (rowS A0 rd Kk S (wid A0 Kk)) (F ++ [(List.range (wid A0 Kk)).map (optK A0 rd (rowS A0 rd Kk S (wid A0 Kk)) Kk)]) := I2
  have hW300 := hfew _ I2.nd I2.ks
  generalize hwd : wid A0 Kk = wd at *
  obtain ⟨x1, hx1, ka, rfl, hka4⟩ := hxs4.at hKk
  refine ⟨fun σ' H' => ∃ (y5 y6 y8 y9 y10 y11 y12 y13 y14 : Option V), σ' = [some (.ref b0), some (.ref ra), some (.ref sa), some (.ref sl), some (.ref N), y5, y6, some (.ref ko), y8, y9, y10, y11, y12, y13, y14] ∧ KnS H H' sl N ko (rowS A0 rd Kk S wd) (F ++ [(List.range wd).map (optK A0 rd (rowS A0 rd Kk S wd) Kk)]), ?_, ?_⟩
  · rintro σ' H' ⟨z5, z6, z8, z9, z10, z11, z12, z13, z14, rfl, Z'⟩
    exact ⟨_, by show 300 - (F ++ [(List.range wd).map (optK A0 rd (rowS A0 rd Kk S wd) Kk)]).length < 300 - F.length; rw [List.length_append, List.length_singleton]; omega, k + 1, _, _, _, _, _, _, _, _, _, _, _, rfl, hnext, Z', rfl⟩
  refine ⟨_, rfl, _, rfl, ko, _, rfl, .inl (sqd ko4), sl, _, _, _, rfl, rfl, sqd kl4, atI_nat (by rw [hzl4]; exact hx1), ?_⟩
  refine ⟨Nat.zero_le _, fun ol hol => ?_⟩
  obtain ⟨H5, e5, s5, k5⟩ := newH hol (.lst [])
  rw [e5]
  have Z5 := Z.same s5
  have hA5 : ArIn H5 A0 (.ref b0) := hA.tp (Tp.same Z5.s)
  have hKl : Kk.length ≤ 46 := by
    have := asc_short (lo := 0) (hi := (A0.length : Int)) hKS.asc (fun x hx => hKS.mem x hx) (by omega)
    omega
  refine ⟨_, rfl, ka, rfl, ⟨_, sqt (s5 _ _ hka4)⟩, fun wl hwl => ?_⟩
  refine lc_tup (K := K) (a := ka) (xs := Kk.map V.int) (fun (j : Nat) (H' : Hp) => Same H5 H' ∧ H' wl = some (.lst (((Kk.take j).map fun p => ((lenOf A0 p : Nat) : Int)).map V.int))) ?_ ?_ ?_ ?_
  · exact ⟨same_new hwl _, upd_same⟩
  · rintro j H' _ ⟨s6, _⟩
    exact sqt (s6 _ _ (s5 _ _ hka4))
  · rintro j x H6 hx ⟨s6, k6⟩
    rw [List.getElem?_map] at hx
    obtain ⟨p, hp, rfl⟩ := Option.map_eq_some_iff.mp hx
    obtain ⟨p0, p1⟩ := hKS.mem p (List.mem_of_getElem? hp)
    obtain ⟨os, x, hos, hat, b1, ys, rfl, eb1, hys⟩ := hzs0.atI p0 p1
    have hj := (List.getElem?_eq_some_iff.mp hp).1
    refine ⟨rfl, yes_if ?_⟩
    refine ⟨_, rfl, _, rfl, b0, _, _, _, rfl, rfl, sqt (s6 _ _ (Z5.s _ _ e0)), hat, b1, _, rfl, .inr (sqt (s6 _ _ (Z5.s _ _ eb1))), _, k6, big' (by rw [List.length_map, List.length_map, List.length_take]; omega), same_put s6 hwl, ?_⟩
    rw [upd_same, List.take_add_one, hp, List.map_append, List.map_append, hys.1, ← lenOf_at hos]
    rfl
  rintro H6 ⟨s6, k6⟩
  rw [List.length_map, List.take_length] at k6
  refine ⟨wl, _, rfl, sqd k6, by rw [List.length_map]; exact List.length_pos_iff.mpr hKS.ne, fun mn hmn hmle => ?_⟩
  have hmw : mn = ((wd : Nat) : Int) := by
    obtain ⟨p, hp, e⟩ := List.mem_map.mp hmn
    have h1 : mn.toNat = wid A0 Kk := wid_is (fun p hp => by have := hmle _ (List.mem_map.mpr ⟨p, hp, rfl⟩); omega) ⟨p, hp, by omega⟩
    rw [hwd] at h1
    omega
  have hwd12 : wd ≤ 12 := by
    obtain ⟨p, hp, e⟩ := wid_mem (A := A0) hKS.ne
    rw [hwd] at e
    obtain ⟨p0, p1⟩ := hKS.mem p hp
    have hk2 : p.toNat < A0.length := by omega
    have := (hG.2 _ (List.getElem_mem hk2)).1
    have e2 := lenOf_at (A := A0) (p := p) (List.getElem?_eq_getElem hk2)
    omega
  have hwle : ∀ i, i < wd → ∀ p ∈ Kk, i < lenOf A0 p := fun i hi p hp => by
    have := wid_le (A := A0) p hp
    omega
  have s56 : Same H4 H6 := s5.trans s6
  have Z6 := Z5.same s6
  have hslO : sl ≠ ol := fun z => by rw [← z, kl4] at hol; cases hol
  have hNO : N ≠ ol := fun z => by
    obtain ⟨kvs, h1, _⟩ := Z.nm
    rw [← z, h1] at hol
    cases hol
  have hkoO : ko ≠ ol := fun z => by rw [← z, ko4] at hol; cases hol
  refine ⟨mn, rfl, by omega, by omega, for_range (lo := 0) (n := mn.toNat) (fun (j : Nat) (σ : L2.St) (H' : Hp) => ∃ (y9 y10 y11 y12 y13 y14 : Option V), σ = [some (.ref b0), some (.ref ra), some (.ref sa), some (.ref sl), some (.ref N), y5, some (.ref ka), some (.ref ko), some (.ref ol), y9, y10, y11, y12, y13, y14] ∧ KnS H H' sl N ko (rowS A0 rd Kk S j) F ∧ H' ka = some (.tup (Kk.map V.int)) ∧ ∃ os, H' ol = some (.lst os) ∧ Each (OptIn H') ((List.range j).map (optK A0 rd (rowS A0 rd Kk S wd) Kk)) os) ?_ ?_ ?_⟩
  · exact ⟨_, _, _, _, _, _, rfl, Z6, s56 _ _ hka4, [], s6 _ _ k5, .nil⟩
  · rintro j σ H7 hj ⟨y9, y10, y11, y12, y13, y14, rfl, Z7, hka7, os7, kol7, hos7⟩
    have hjw : j < wd := by omega
    have hfolG := fol_ks hG hKS (i := j) (by rw [hwd]; exact hjw)
    refine ⟨_, rfl, _, rfl, _, rfl, .ref b0, ka, A0, Kk, j, by rw [Int.zero_add]; rfl, hA.tp (Tp.same Z7.s), hG, hn, hka7, hKS.mem, hwle j hjw, fun al H8 s8 hal k8 => ?_⟩
    have hsucR := succs_mem hG hKS.mem (hwle j hjw)
    have hsl47 : (succs A0 Kk j).length ≤ 47 := by
      have := asc_short (lo := -1) (hi := (A0.length : Int)) (l := succs A0 Kk j) asc_srt (fun x hx => hsucR x hx) (by omega)
      omega
    have Z8 := Z7.same s8
    refine ⟨_, rfl, al, rfl, ⟨_, sqd k8⟩, fun fl hfl => ?_⟩
    refine lc_list (K := K) (a := al) (xs := (succs A0 Kk j).map V.int) (fun (t : Nat) (H' : Hp) => Same H8 H' ∧ H' fl = some (.lst ((((succs A0 Kk j).take t).filter fun p => !decide (p = -1)).map V.int))) ?_ ?_ ?_ ?_
    · exact ⟨same_new hfl _, upd_same⟩
    · rintro t H' _ ⟨s9, _⟩
      exact sqd (s9 _ _ k8)
    · rintro t x H9 hx ⟨s9, k9⟩
      rw [List.getElem?_map] at hx
      obtain ⟨p, hp, rfl⟩ := Option.map_eq_some_iff.mp hx
      have hfl60 : (((succs A0 Kk j).take t).filter fun p => !decide (p = -1)).length ≤ 60 := by
        have h1 := List.length_filter_le (fun p : Int => !decide (p = -1)) ((succs A0 Kk j).take t)
        rw [List.length_take] at h1
        omega
      refine ⟨rfl, ?_⟩
      refine ⟨_, rfl, _, rfl, rfl, _, rfl, ?_⟩
      have hnx : ((succs A0 Kk j).take (t + 1)).filter (fun p => !decide (p = -1)) = ((succs A0 Kk j).take t).filter (fun p => !decide (p = -1)) ++ if p = -1 then [] else [p] := by
        rw [List.take_add_one, hp, List.filter_append]
        congr 1
        by_cases h : p = -1
        · rw [if_pos h, h]
          rfl
        · rw [if_neg h]
          simp [h]
      by_cases h : p = -1
      · subst h
        refine iteF ⟨s9, ?_⟩
        rw [hnx, if_pos rfl, List.append_nil]
        exact k9
      · rw [show (!decide (V.int p = V.int (-1))) = true by rw [decide_eq_false (fun e => h (V.int.inj e))]; rfl]
        refine iteT ⟨_, rfl, _, k9, big' (by rw [List.length_map]; omega), same_put s9 hfl, ?_⟩
        rw [upd_same, hnx, if_neg h, List.map_append]
        rfl
    rintro H9 ⟨s9, k9⟩
    rw [List.length_map, List.take_length] at k9
    have s79 := s8.trans s9
    have hfm : ∀ p ∈ (succs A0 Kk j).filter (fun p => !decide (p = -1)), 0 ≤ p ∧ p < (A0.length : Int) := fun p hp => by
      obtain ⟨h1, h2⟩ := List.mem_filter.mp hp
      have h3 : p ≠ -1 := by simpa using h2
      have := hsucR p h1
      omega
    have hfl60 : ((succs A0 Kk j).filter fun p => !decide (p = -1)).length ≤ 60 := by
      have h1 := List.length_filter_le (fun p : Int => !decide (p = -1)) (succs A0 Kk j)
      omega
    refine ⟨_, rfl, fl, ra, _, R, rfl, .inl k9, s79 _ _ (Z7.s _ _ hra), hfl60, fun p hp => by rw [hRl]; exact hfm p hp, fun gl gxs HA sA hgl kA hgx => ?_⟩
    rw [hrd] at hgx
    have hgx : Each (OptIn HA) (fol A0 rd Kk j) gxs := hgx
    have hGl60 : (fol A0 rd Kk j).length ≤ 60 := Nat.le_trans prt_len hfl60
    have s7A := s79.trans sA
    have ZA := Z7.same s7A
    generalize hGf : fol A0 rd Kk j = Gf at *
    have hgxl := hgx.1
    have glsl : gl ≠ sl := fun z => by
      obtain ⟨xs, h1, _⟩ := (Z7.same s79).ls
      rw [z, h1] at hgl
      cases hgl
    have glN : gl ≠ N := fun z => by
      obtain ⟨xs, h1, _⟩ := (Z7.same s79).nm
      rw [z, h1] at hgl
      cases hgl
    have kolA := s7A _ _ kol7
    refine ⟨_, rfl, gl, rfl, ⟨_, sqd kA⟩, ?_⟩
    refine for_list (K := K) (a := gl) (xs := gxs) (fun (t : Nat) (σ : L2.St) (H' : Hp) => ∃ (y13 : Option V), σ = [some (.ref b0), some (.ref ra), some (.ref sa), some (.ref sl), some (.ref N), y5, some (.ref ka), some (.ref ko), some (.ref ol), some (.int (0 + (j : Int))), y10, some (.ref al), some (.ref gl), y13, y14] ∧ KnS H H' sl N ko (addS (rowS A0 rd Kk S j) (Gf.take t)) F ∧ ∀ a o, a ≠ sl → a ≠ N → HA a = some o → H' a = some o) ?_ ?_ ?_ ?_
    · exact ⟨_, rfl, by rw [List.take_zero]; exact ZA, fun a o _ _ e => e⟩
    · rintro t σ H' _ ⟨y13, rfl, _, fr⟩
      exact sqd (fr _ _ glsl glN kA)
    · rintro t x σ HB hx ⟨y13, rfl, ZB, fr⟩
      have htl : t < gxs.length := (List.getElem?_eq_some_iff.mp hx).1
      obtain ⟨g, hg⟩ : ∃ g, Gf[t]? = some g := ⟨_, List.getElem?_eq_getElem (by omega)⟩
      obtain ⟨bg, rfl, hbg⟩ := hgx.2 t g x hg hx
      have bgsl : bg ≠ sl := fun z => by
        obtain ⟨xs, h1, _⟩ := ZA.ls
        rw [z, h1] at hbg
        cases hbg
      have bgN : bg ≠ N := fun z => by
        obtain ⟨xs, h1, _⟩ := ZA.nm
        rw [z, h1] at hbg
        cases hbg
      have hbgB := fr _ _ bgsl bgN hbg
      obtain ⟨kvs, kN, hnum, hkl⟩ := ZB.nm
      obtain ⟨xsB, klB, hxsB⟩ := ZB.ls
      have hxlB := hxsB.1
      have hSB300 : (addS (rowS A0 rd Kk S j) (Gf.take t)).length ≤ 300 := by
        refine hfew _ (addS_nodup (rowS_nodup I.nd j)) fun x hx => ?_
        rcases mem_addS.mp hx with h | h
        · exact rowS_ks hG hKS I.ks j (by omega) x h
        · exact hfolG x (List.mem_of_mem_take h)
      have hadd : addS (rowS A0 rd Kk S j) (Gf.take (t + 1)) = if g ∈ addS (rowS A0 rd Kk S j) (Gf.take t) then addS (rowS A0 rd Kk S j) (Gf.take t) else addS (rowS A0 rd Kk S j) (Gf.take t) ++ [g] := by
        rw [List.take_add_one, hg]
        exact addS_app _ _ _
      refine ⟨_, rfl, _, rfl, N, _, rfl, DGet.t (k := gk g) kN (by rw [gk_V]; exact hbgB), _, rfl, ?_⟩
      rw [hnum g]
      by_cases hgS : g ∈ addS (rowS A0 rd Kk S j) (Gf.take t)
      · rw [if_pos hgS]
        refine ifF rfl ?_
        refine ⟨_, rfl, ?_, fr⟩
        rw [hadd, if_pos hgS]
        exact ZB
      · rw [if_neg hgS]
        refine ifT rfl ?_
        refine ⟨_, rfl, sl, _, rfl, .inl (sqd klB), _, rfl, _, rfl, N, _, rfl, DPut.t (k := gk g) kN (by rw [gk_V]; exact hbgB) (big' (by omega)), ?_⟩
        have klB' : upd HB N (.dT (putK kvs (gk g) (.int ((xsB.length : Nat) : Int)))) sl = some (.lst xsB) := by rw [upd_ne ZB.ne.1]; exact klB
        refine ⟨_, rfl, .inl ⟨rfl, _, sqd klB'⟩, _, rfl, sl, _, _, rfl, rfl, klB', big' (by omega), ?_⟩
        refine ⟨_, rfl, ?_, fun a o ha1 ha2 e => by rw [upd_ne ha1, upd_ne ha2]; exact fr a o ha1 ha2 e⟩
        rw [hadd, if_neg hgS, hxlB]
        exact ZB.add hslko hgS klB kN hbgB
    · rintro σ HB ⟨y13', rfl, ZB, fr⟩
      rw [hgxl, List.take_length] at ZB
      have hrow : addS (rowS A0 rd Kk S j) Gf = rowS A0 rd Kk S (j + 1) := by
        rw [← hGf]
        rfl
      rw [hrow] at ZB
      have alsl : al ≠ sl := fun z => by
        obtain ⟨xs, h1, _⟩ := Z7.ls
        rw [z, h1] at hal
        cases hal
      have alN : al ≠ N := fun z => by
        obtain ⟨xs, h1, _⟩ := Z7.nm
        rw [z, h1] at hal
        cases hal
      have kalB := fr _ _ alsl alN (sA _ _ (s9 _ _ k8))
      refine ⟨_, rfl, _, rfl, al, _, rfl, .inl (sqd kalB), rfl, flat_ints' _, _, rfl, ?_⟩
      rw [if_neg Bool.false_ne_true, int_in]
      refine gx_out (fun out HC => Same HB HC ∧ HB out = none ∧ HC out = some (.lst ((if (-1 : Int) ∈ succs A0 Kk j then [-1] else []).map V.int))) (fun hc C q' => ?_) (fun hc C q' => ?_) ?_
      · exact ⟨_, rfl, Nat.le_of_ble_eq_true rfl, fun out hout => q' out _ ⟨same_new hout _, hout, by rw [upd_same, if_pos (of_decide_eq_true hc)]; rfl⟩⟩
      · exact ⟨Nat.zero_le _, fun out hout => q' out _ ⟨same_new hout _, hout, by rw [upd_same, if_neg (of_decide_eq_false hc)]; rfl⟩⟩
      rintro out HC ⟨sC, hout, kout⟩
      have ZC := ZB.same sC
      have kolC := sC _ _ (fr _ _ hslO.symm hNO.symm kolA)
      have kglC := sC _ _ (fr _ _ glsl glN kA)
      obtain ⟨kvsC, kNC, hnumC, hklC⟩ := ZC.nm
      have hGin : ∀ g ∈ Gf, g ∈ rowS A0 rd Kk S (j + 1) := fun g hg => rowS_fol (Nat.lt_succ_self j) g (by rw [hGf]; exact hg)
      refine ⟨_, rfl, .inl ⟨rfl, _, sqd kolC⟩, _, rfl, _, rfl, gl, rfl, ⟨_, sqd kglC⟩, fun nl hnl => ?_⟩
      refine lc_list (K := K) (a := gl) (xs := gxs) (fun (t : Nat) (H' : Hp) => Same HC H' ∧ H' nl = some (.lst (((Gf.take t).map fun g => ((nr (rowS A0 rd Kk S (j + 1)) g : Nat) : Int)).map V.int))) ?_ ?_ ?_ ?_
      · exact ⟨same_new hnl _, upd_same⟩
      · rintro t H' _ ⟨sD, _⟩
        exact sqd (sD _ _ kglC)
      · rintro t x HD hx ⟨sD, kD⟩
        have htl : t < gxs.length := (List.getElem?_eq_some_iff.mp hx).1
        obtain ⟨g, hg⟩ : ∃ g, Gf[t]? = some g := ⟨_, List.getElem?_eq_getElem (by omega)⟩
        obtain ⟨bg, rfl, hbg⟩ := hgx.2 t g x hg hx
        have bgsl : bg ≠ sl := fun z => by
          obtain ⟨xs, h1, _⟩ := ZA.ls
          rw [z, h1] at hbg
          cases hbg
        have bgN : bg ≠ N := fun z => by
          obtain ⟨xs, h1, _⟩ := ZA.nm
          rw [z, h1] at hbg
          cases hbg
        have hbgD := sD _ _ (sC _ _ (fr _ _ bgsl bgN hbg))
        have hget := DGet.t (k := gk g) (sD _ _ kNC) (show HD bg = some (.tup ((gk g).map kV)) by rw [gk_V]; exact hbgD)
        rw [hnumC g, if_pos (hGin g (List.mem_of_getElem? hg))] at hget
        refine ⟨rfl, yes_if ?_⟩
        refine ⟨_, rfl, _, rfl, N, _, rfl, hget, _, kD, big' (by rw [List.length_map, List.length_map, List.length_take]; omega), same_put sD hnl, ?_⟩
        rw [upd_same, List.take_add_one, hg, List.map_append, List.map_append]
        rfl
      rintro HD ⟨sD, kD⟩
      rw [hgxl, List.take_length] at kD
      have hnd : (Gf.map fun g => ((nr (rowS A0 rd Kk S (j + 1)) g : Nat) : Int)).Nodup := by
        refine List.pairwise_map.mpr ?_
        have h : Gf.Pairwise fun a b => a ≠ b := by
          rw [← hGf]
          exact prt_nodup
        refine List.Pairwise.imp_of_mem (fun {a b} ha hb hab e => hab ?_) h
        exact nr_inj (hGin a ha) (hGin b hb) (Int.ofNat.inj e)
      refine ⟨nl, _, rfl, sqd kD, by rw [List.length_map]; omega, fun ns sp hperm hpw hsp => ?_⟩
      have hns : ns = srt (Gf.map fun g => ((nr (rowS A0 rd Kk S (j + 1)) g : Nat) : Int)) := srt_is (asc_of hperm hnd hpw) fun x => hperm.mem_iff
      have hnsl : ns.length ≤ 60 := by rw [hperm.length_eq, List.length_map]; exact hGl60
      obtain ⟨HE, eE, sE, kE⟩ := newH hsp (.lst (ns.map V.int))
      rw [eE]
      have hol1 : ((if (-1 : Int) ∈ succs A0 Kk j then [-1] else []) : List Int).length ≤ 1 := by split <;> simp
      refine ⟨out, sp, _, _, rfl, rfl, sE _ _ (sD _ _ kout), kE, big (by rw [List.length_map, List.length_map]; omega), fun cp hcp => ?_⟩
      obtain ⟨HF, eF, sF, kF⟩ := newH hcp (.lst ((if (-1 : Int) ∈ succs A0 Kk j then [-1] else []).map V.int ++ ns.map V.int))
      rw [eF]
      refine ⟨cp, _, rfl, .inl ⟨sqd kF, fun tp htp => ?_⟩⟩
      obtain ⟨HG, eG, sG, kG⟩ := newH htp (.tup ((if (-1 : Int) ∈ succs A0 Kk j then [-1] else []).map V.int ++ ns.map V.int))
      rw [eG]
      have sCG := ((sD.trans sE).trans sF).trans sG
      have kolG := sCG _ _ kolC
      have hosl := hos7.1
      rw [List.length_map, List.length_range] at hosl
      have sBG := sC.trans sCG
      have ZG := ZB.same sBG
      have olf : HA ol = some (.lst os7) := kolA
      have tpp : Tp HG (upd HG ol (.lst (os7 ++ [.ref tp]))) := tp_put Tp.refl kolG
      have tp7 : Tp H7 HG := fun a ys e => sBG _ _ (fr _ _ (fun q => by
        obtain ⟨xs, h1, _⟩ := Z7.ls
        rw [q, h1] at e
        cases e) (fun q => by
        obtain ⟨xs, h1, _⟩ := Z7.nm
        rw [q, h1] at e
        cases e) (s7A _ _ e))
      have htpol : tp ≠ ol := fun z => by rw [z, sF _ _ (sE _ _ (sD _ _ kolC))] at htp; cases htp
      refine ⟨ol, os7, _, rfl, rfl, kolG, big' (by omega), ?_⟩
      have hkaG := tp7 _ _ hka7
      refine ⟨_, _, _, _, _, _, rfl, ZG.put hslO hNO hkoO (Z.s.free hol) kolG, by rw [upd_ne (fun z => by rw [z, kolG] at hkaG; cases hkaG)]; exact hkaG, os7 ++ [.ref tp], upd_same, ?_⟩
      · rw [List.range_succ, List.map_append]
        refine (hos7.mono fun o x h => OptIn.tp (tp7.trans tpp) h).snoc ⟨tp, rfl, ?_⟩
        rw [upd_ne htpol, kG, ← List.map_append]
        have e1 : optK A0 rd (rowS A0 rd Kk S wd) Kk j = optK A0 rd (rowS A0 rd Kk S (j + 1)) Kk j := by
          obtain ⟨T, hT⟩ := rowS_le (A := A0) (rd := rd) (K := Kk) (S := S) (show j + 1 ≤ wd from hjw)
          rw [hT]
          exact optK_app fun g hg => hGin g (by rw [← hGf]; exact hg)
        rw [e1]
        unfold optK
        rw [hGf, ← hns]
  · rintro σ H7 ⟨y9, y10, y11, y12, y13, y14, rfl, Z7, hka7, os7, kol7, hos7⟩
    rw [show mn.toNat = wd by omega] at Z7 hos7
    obtain ⟨zs7, ko7, hzs7⟩ := Z7.lo
    have hzl7 := hzs7.1
    refine ⟨_, rfl, .inl ⟨rfl, _, sqd ko7⟩, _, rfl, ol, _, rfl, .inl ⟨sqd kol7, fun t ht => ?_⟩⟩
    obtain ⟨H8, e8, s8, k8⟩ := newH ht (.tup os7)
    rw [e8]
    refine ⟨ko, zs7, _, rfl, rfl, s8 _ _ ko7, big' (by omega), ?_⟩
    exact ⟨_, _, _, _, _, _, _, _, _, rfl, (Z7.same s8).row hslko (s8 _ _ ko7) k8 (hos7.mono fun o x => OptIn.tp (Tp.same s8))⟩
end
end NL

set_option maxHeartbeats 4000000
namespace NL
open PySem PySem.Spec PyProof.Rows L2
structure KpG (n : Nat) (Kp : List Int) : Prop where
  asc : Kp.Pairwise (· < ·)
  mem : ∀ x ∈ Kp, 0 ≤ x ∧ x < (n : Int)
theorem KpG.nil (n : Nat) : KpG n [] := ⟨List.Pairwise.nil, fun x h => nomatch h⟩
theorem KpG.up {n m : Nat} {l : List Int} (h : KpG n l) (hn : n ≤ m) : KpG m l := ⟨h.asc, fun x hx => by have := h.mem x hx; omega⟩
theorem KpG.snoc {n : Nat} {l : List Int} (h : KpG n l) : KpG (n + 1) (l ++ [0 + (n : Int)]) := by
  refine ⟨List.pairwise_append.mpr ⟨h.asc, List.pairwise_singleton .., fun a ha b hb => ?_⟩, fun x hx => ?_⟩
  · rw [List.mem_singleton.mp hb]
    have := h.mem a ha
    omega
  · rcases List.mem_append.mp hx with hx | hx
    · have := h.mem x hx
      omega
    · rw [List.mem_singleton.mp hx]
      omega
theorem KpG.range : ∀ n : Nat, KpG n ((List.range n).map fun i : Nat => (0 : Int) + (i : Int))
  | 0 => KpG.nil 0
  | n + 1 => by
    rw [List.range_succ, List.map_append]
    exact (KpG.range n).snoc
section
variable {P : Program} {w : World} {K : PySem.W.Frag} {mg : Str → Option Value} {base : Heap}
/-! ### _law_some -/
def spSome : Sp := fun vs H Q _ => ∃ (d : Addr) (v : V) (A : Ar) (sh : Int), vs = [.ref d, v, .int sh] ∧ Dr H d ∧ ArIn H A v ∧ A.length ≤ 400 ∧ ∀ (p : Addr) (o : List Int) (H' : Hp), Go d H H' → H' p = some (.tup (o.map V.int)) → KpG A.length o → Q (.ref p) H'
theorem ok_law_some (T : Txt K mg) : FnOk P w K mg base CX0 2 T.a_law_some T.d_law_some P_law_some spSome := by
  have G_law_take := ok_law_take (P := P) (w := w) (base := base) T
  refine T.F_law_some.ok sc_law_some (fun vs H Q E h => ?_) (fun cdv A outer s H vs Q E hr h => ?_)
  · obtain ⟨d, v, A, sh, rfl, _⟩ := h
    rfl
  obtain ⟨d, v, A0, sh, rfl, hD, ⟨b0, xs, rfl, e0, hxs⟩, h16, q⟩ := h
  have hxl := hxs.1
  refine ⟨_, (pss_cons (ps_if (pt_cmpR op_gt (pe_callB call_len_seq (by rfl) T.z_len PySem.boot_len (pa_cons (pv 1) pa_nil)) pe_int (nomark _))
    (pss_cons (ps_set (i := 3) sc_law_some.nd rfl (Or.inr rfl) (pe_op op_add pe_int (pe_call G_law_take (hr.mono (by omega)) (by rfl) T.m_law_take T.F_law_take.kp T.b_law_take .nil pass0 (pa_cons (pv 0) (pa_cons pe_int pa_nil)))))
    (pss_cons (ps_set (i := 4) sc_law_some.nd rfl (Or.inr rfl) (pe_call G_law_take (hr.mono (by omega)) (by rfl) T.m_law_take T.F_law_take.kp T.b_law_take .nil pass0 (pa_cons (pv 0) (pa_cons pe_int pa_nil))))
    (pss_one (ps_ret (pe_callTy call_tuple_of (by rfl) T.z_tuple (by decide +kernel) (pa_cons (pe_lc (own := [("k", 5)]) (g := (gName 5)) (tt := _) rfl sc_law_some.nd (pi_range1 (by rfl) T.z_range (pa_cons (pe_callB call_len_seq (by rfl) T.z_len PySem.boot_len (pa_cons (pv 1) pa_nil)) pa_nil)) (blkOk_by (N := N_law_some) (sc := defScope s_law_some) (by decide +kernel)) (fun _ _ _ _ _ => (pg_name (i := 5) sc_law_some.nd rfl (Or.inl rfl))) (fun _ _ _ _ _ => (pts_one (pt_cmpR op_eq (pe_cmpR op_gt (pe_op op_mod (pe_callTy call_int1 (by rfl) T.z_int (by decide +kernel) (pa_cons (pe_op op_add (pv 5) (pv 4)) pa_nil)) (pv 3)) pe_int (nomark _)) (pe_cmpR op_gt (pv 2) pe_int (nomark _)) (nomark _)))) (fun _ _ _ _ _ => (pv 5))) pa_nil))))))
    pss_nil)
    (pss_cons (ps_if (PW.pt (pw_and (pt_cmpR op_eq (pe_call G_law_take (hr.mono (by omega)) (by rfl) T.m_law_take T.F_law_take.kp T.b_law_take .nil pass0 (pa_cons (pv 0) (pa_cons pe_int pa_nil))) pe_int (nomark _)) (pw_and1 (pt_cmpR op_gt (pv 2) pe_int (nomark _)))))
    (pss_one (ps_ret (pe_tupRg rfl (by rfl) T.z_tuple (prg_1 (by rfl) T.z_range (pe_callB call_len_seq (by rfl) T.z_len PySem.boot_len (pa_cons (pv 1) pa_nil))))))
    pss_nil)
    (pss_one (ps_ret (pe_callTy call_tuple_of (by rfl) T.z_tuple (by decide +kernel) (pa_cons (pe_lc (own := [("k", 5)]) (g := (gName 5)) (tt := _) rfl sc_law_some.nd (pi_range1 (by rfl) T.z_range (pa_cons (pe_callB call_len_seq (by rfl) T.z_len PySem.boot_len (pa_cons (pv 1) pa_nil)) pa_nil)) (blkOk_by (N := N_law_some) (sc := defScope s_law_some) (by decide +kernel)) (fun _ _ _ _ _ => (pg_name (i := 5) sc_law_some.nd rfl (Or.inl rfl))) (fun _ _ _ _ _ => (pts_one (pt_cmpR op_lt (pe_call G_law_take (hr.mono (by omega)) (by rfl) T.m_law_take T.F_law_take.kp T.b_law_take .nil pass0 (pa_cons (pv 0) (pa_cons pe_int pa_nil))) (pv 2) (nomark _)))) (fun _ _ _ _ _ => (pv 5))) pa_nil)))))), ?_⟩
  refine ⟨_, rfl, b0, _, rfl, .inr (sqt e0), _, _, rfl, rfl, _, rfl, ?_⟩
  refine ite2 (fun z16 => ?_) (fun z16 => ?_)
  · refine ⟨_, rfl, d, 9, rfl, hD, by decide, fun u1 H1 g1 a1 b1 => ⟨_, _, rfl, rfl, ?_⟩⟩
    dsimp only
    generalize hst : (2 : Int) + u1 = stp
    refine ⟨_, rfl, d, 4, rfl, g1.dr, by decide, fun u2 H2 g2 a2 b2 => ?_⟩
    have g12 := g1.trans g2
    have e2 := g12.tp hD _ _ e0
    refine ⟨_, rfl, b0, _, rfl, .inr (sqt e2), _, rfl, by omega, by omega, fun D hD' => ?_⟩
    have s1 := same_new hD' (.lst [])
    refine lc_range (lo := 0) (n := ((xs.length : Nat) : Int).toNat) (fun (i : Nat) (H' : Hp) => ∃ o : List Int, Go d H H' ∧ H' D = some (.lst (o.map V.int)) ∧ o.length ≤ i ∧ KpG i o) ?_ ?_ ?_
    · exact ⟨[], g12.trans (.same g2.dr s1), upd_same, Nat.le_refl 0, KpG.nil 0⟩
    · rintro i H' hi ⟨o, g3, e3, hlen, hnn⟩
      refine ⟨rfl, ?_⟩
      refine ⟨_, rfl, _, rfl, _, _, rfl, rfl, .inl ⟨_, rfl, _, rfl, _, _, rfl, rfl, (by show (0 : Int) < stp; omega), _, _, rfl, rfl, _, rfl, _, _, rfl, rfl, rfl, _, rfl, ?_⟩⟩
      refine ite2 (fun z => ?_) (fun z => ⟨o, g3, e3, by omega, hnn.up (Nat.le_succ i)⟩)
      exact ⟨_, rfl, _, e3, big' (by rw [List.length_map]; omega), o ++ [0 + (i : Int)], g3.put2 (g12.free hD') (new_ne g2.dr hD'), by rw [upd_same, List.map_append]; rfl, by rw [List.length_append]; exact Nat.add_le_add_right hlen 1, hnn.snoc⟩
    · rintro H3 ⟨o, g3, e3, hlen, hnn⟩
      refine ⟨D, _, rfl, .inl ⟨sqd e3, fun t ht => ?_⟩⟩
      exact q t o _ (g3.trans (Go.new g3.dr ht)) upd_same (hnn.up (by omega))
  refine ⟨_, rfl, d, 6, rfl, hD, by decide, fun u H1 g1 _ _ => ⟨rfl, _, rfl, ?_⟩⟩
  have e1 := g1.tp hD _ _ e0
  refine ite2 (fun z => ⟨_, rfl, _, _, rfl, rfl, _, rfl, ite2 (fun z2 => ?_) (fun z2 => ?_)⟩) (fun z => ?_)
  · refine ⟨_, rfl, b0, _, rfl, .inr (sqt e1), _, rfl, ⟨by omega, by omega, by omega, by omega, by omega⟩, fun q1 hq1 => ?_⟩
    rw [rg_ints]
    exact q q1 _ _ (g1.trans (Go.new g1.dr hq1)) upd_same ((KpG.range _).up (by omega))
  all_goals
    refine ⟨_, rfl, b0, _, rfl, .inr (sqt e1), _, rfl, by omega, by omega, fun D hD' => ?_⟩
    have nDd := new_ne g1.dr hD'
    have s1 := same_new hD' (.lst [])
    refine lc_range (lo := 0) (n := ((xs.length : Nat) : Int).toNat) (fun (i : Nat) (H' : Hp) => ∃ o : List Int, Go d H H' ∧ H' D = some (.lst (o.map V.int)) ∧ o.length ≤ i ∧ KpG i o) ?_ ?_ ?_
    · exact ⟨[], g1.trans (.same g1.dr s1), upd_same, Nat.le_refl 0, KpG.nil 0⟩
    · rintro i H' hi ⟨o, g2, e2, hlen, hnn⟩
      refine ⟨rfl, ?_⟩
      refine ⟨_, rfl, d, 8, rfl, g2.dr, by decide, fun u H2 g3 _ _ => ⟨_, rfl, _, _, rfl, rfl, _, rfl, ?_⟩⟩
      have e3 := g3.fr D _ nDd e2
      refine ite2 (fun z => ?_) (fun z => ⟨o, g2.trans g3, e3, by omega, hnn.up (Nat.le_succ i)⟩)
      exact ⟨_, rfl, _, e3, big' (by rw [List.length_map]; omega), o ++ [0 + (i : Int)], (g2.trans g3).put2 (g1.free hD') nDd, by rw [upd_same, List.map_append]; rfl, by rw [List.length_append]; exact Nat.add_le_add_right hlen 1, hnn.snoc⟩
    · rintro H2 ⟨o, g2, e2, hlen, hnn⟩
      refine ⟨D, _, rfl, .inl ⟨sqd e2, fun t ht => ?_⟩⟩
      exact q t o _ (g2.trans (Go.new g2.dr ht)) upd_same (hnn.up (by omega))
theorem rd_go {d a : Addr} {H H' : Hp} {u : HO} (g : Go d H H') (h : a ≠ d) (r : Rd H a u) : Rd H' a u := by
  rcases r with r | ⟨o, r⟩
  · exact .inl (g.fr a _ h r)
  · exact .inr ⟨o, g.fr a _ h r⟩
theorem rd_sm {a : Addr} {H H' : Hp} {u : HO} (s : Same H H') (r : Rd H a u) : Rd H' a u := by
  rcases r with r | ⟨o, r⟩
  · exact .inl (s _ _ r)
  · exact .inr ⟨o, s _ _ r⟩
/-- the script stays while draws go on -/
def ScrL (K : PySem.W.Frag) (d : Addr) (H : Hp) (a : Addr) (xs : List V) : Prop := SqL K H a xs ∧ (a = d → ∃ (o : Obj) (its : Array Value) (n : Nat), K.lookup a = some o ∧ o.cls = .type "list" ∧ o.dict = none ∧ o.data = .seq its n ∧ its.size ≤ sizeLine ∧ Vals xs its.toList)
theorem ScrL.of {d a : Addr} {H : Hp} {xs : List V} (h : SqL K H a xs) (hd : H d = none) : ScrL K d H a xs := ⟨h, fun e => by
  subst e
  rcases h with h | h
  · rcases h with h | ⟨o, h⟩
    · rw [hd] at h; cases h
    · rw [hd] at h; cases h
  · exact h⟩
theorem ScrL.go {d a : Addr} {H H' : Hp} {xs : List V} (g : Go d H H') (h : ScrL K d H a xs) : ScrL K d H' a xs := ⟨by
  by_cases e : a = d
  · exact .inr (h.2 e)
  · rcases h.1 with r | r
    · exact .inl (rd_go g e r)
    · exact .inr r, h.2⟩
theorem ScrL.sm {d a : Addr} {H H' : Hp} {xs : List V} (g : Same H H') (h : ScrL K d H a xs) : ScrL K d H' a xs := ⟨by
  rcases h.1 with r | r
  · exact .inl (rd_sm g r)
  · exact .inr r, h.2⟩
end
end NL

set_option maxHeartbeats 4000000
namespace NL
open PySem PySem.Spec PyProof.Rows L2
section
variable {P : Program} {w : World} {K : PySem.W.Frag} {mg : Str → Option Value} {base : Heap}
/-! ### _law_readings -/
def spReadings (K : PySem.W.Frag) : Sp := fun vs H Q _ => ∃ (a d : Addr) (ns : List Int) (av : V) (A : Ar), vs = [.ref a, .ref d, av] ∧ ScrL K d H a (ns.map V.int) ∧ ns.length ≤ 63 ∧ Dr H d ∧ ArIn H A av ∧ A.length ≤ 46 ∧
  ∀ (p : Addr) (zs : List Int) H', Go d H H' → H' p = some (.tup (zs.map V.int)) → zs.length = A.length → Q (.ref p) H'
theorem ok_law_readings (T : Txt K mg) : FnOk P w K mg base CX0 2 T.a_law_readings T.d_law_readings P_law_readings (spReadings K) := by
  have G_law_take := ok_law_take (P := P) (w := w) (base := base) T
  refine T.F_law_readings.ok sc_law_readings (fun vs H Q E h => ?_) (fun cdv A outer s H vs Q E hr h => ?_)
  · obtain ⟨a, d, ns, av, A, rfl, _⟩ := h
    rfl
  obtain ⟨a, d, ns, av, A0, rfl, hS, hl, hD, ⟨b0, xs, rfl, e0, hxs⟩, hn, q⟩ := h
  have hxl := hxs.1
  refine ⟨_, (pss_cons (ps_set (i := 3) sc_law_readings.nd rfl (Or.inl rfl) (pe_call G_law_take (hr.mono (by omega)) (by rfl) T.m_law_take T.F_law_take.kp T.b_law_take .nil pass0 (pa_cons (pv 1) (pa_cons pe_int pa_nil))))
    (pss_cons (ps_set (i := 4) sc_law_readings.nd rfl (Or.inr rfl) (pe_call G_law_take (hr.mono (by omega)) (by rfl) T.m_law_take T.F_law_take.kp T.b_law_take .nil pass0 (pa_cons (pv 1) (pa_cons pe_int pa_nil))))
    (pss_cons (ps_set (i := 5) sc_law_readings.nd rfl (Or.inr rfl) (pe_op op_add pe_int (pe_call G_law_take (hr.mono (by omega)) (by rfl) T.m_law_take T.F_law_take.kp T.b_law_take .nil pass0 (pa_cons (pv 1) (pa_cons pe_int pa_nil)))))
    (pss_cons (ps_set (i := 6) sc_law_readings.nd rfl (Or.inr rfl) (pe_ix ix_list (pe_lst (pa_cons pe_int (pa_cons pe_int (pa_cons pe_int (pa_cons pe_int (pa_cons pe_int (pa_cons pe_int pa_nil))))))) (pv 3) (fun _ _ => rfl)))
    (pss_cons (ps_setLc (i := 7) (own := [("k", 8)]) (g := (gName 8)) (tt := tYes) rfl sc_law_readings.nd rfl rfl (sw_true rfl rfl rfl (by decide +kernel)) (pi_range1 (by rfl) T.z_range (pa_cons (pe_callB call_len_seq (by rfl) T.z_len PySem.boot_len (pa_cons (pv 2) pa_nil)) pa_nil)) (blkOk_by (N := N_law_readings) (sc := defScope s_law_readings) (by decide +kernel)) (fun _ _ _ _ _ => (pg_name (i := 8) sc_law_readings.nd rfl (Or.inl rfl))) (fun _ _ _ _ _ => pts_nil) (fun _ _ _ _ _ => (pe_op op_sub (pe_op op_mod (pe_callTy call_int1 (by rfl) T.z_int (by decide +kernel) (pa_cons (pe_op op_add (pe_op op_add (pv 4) (pe_op op_mul (pv 5) (pv 8))) (pe_op op_mul (pv 8) (pv 8))) pa_nil)) (pv 6)) (pe_op op_fdiv (pv 6) pe_int))))
    (C8.pss_cut (ps_if (pt_cmpR op_eq (pv 3) pe_int (nomark _))
    (pss_one (ps_setLc (i := 7) (own := [("k", 8)]) (g := (gName 8)) (tt := tYes) rfl sc_law_readings.nd rfl rfl (sw_true rfl rfl rfl (by decide +kernel)) (pi_range1 (by rfl) T.z_range (pa_cons (pe_callB call_len_seq (by rfl) T.z_len PySem.boot_len (pa_cons (pv 2) pa_nil)) pa_nil)) (blkOk_by (N := N_law_readings) (sc := defScope s_law_readings) (by decide +kernel)) (fun _ _ _ _ _ => (pg_name (i := 8) sc_law_readings.nd rfl (Or.inl rfl))) (fun _ _ _ _ _ => pts_nil) (fun _ _ _ _ _ => (pe_op op_mul (pe_un un_neg pe_int) (pv 8)))))
    pss_nil)
    (C8.pss_cut (ps_if (PW.pt (pw_and (pt_cmpR op_eq (pv 3) pe_int (nomark _)) (pw_and1 (pt_cmpR op_gt (pe_callB call_len_seq (by rfl) T.z_len PySem.boot_len (pa_cons (pv 0) pa_nil)) pe_int (nomark _)))))
    (pss_one (ps_setLc (i := 7) (own := [("number", 9)]) (g := (gName 9)) (tt := tYes) rfl sc_law_readings.nd rfl rfl (sw_true rfl rfl rfl (by decide +kernel)) (pi_list (pv 7)) (blkOk_by (N := N_law_readings) (sc := defScope s_law_readings) (by decide +kernel)) (fun _ _ _ _ _ => (pg_name (i := 9) sc_law_readings.nd rfl (Or.inl rfl))) (fun _ _ _ _ _ => pts_nil) (fun _ _ _ _ _ => (pe_callTy call_int1 (by rfl) T.z_int (by decide +kernel) (pa_cons (pe_ix (ix_listK (K := K) rfl) (pv 0) (pe_op op_mod (pe_callTy call_int1 (by rfl) T.z_int (by decide +kernel) (pa_cons (pv 9) pa_nil)) (pe_callB (call_len_seqK (K := K) rfl) (by rfl) T.z_len PySem.boot_len (pa_cons (pv 0) pa_nil))) (fun _ _ => rfl)) pa_nil)))))
    pss_nil)
    (pss_one (ps_ret (pe_callTy call_tuple_of (by rfl) T.z_tuple (by decide +kernel) (pa_cons (pv 7) pa_nil))))))))))), ?_⟩
  refine ⟨_, rfl, d, 6, rfl, hD, by decide, fun kind H1 g1 k0 k1 => ?_⟩
  refine ⟨_, rfl, d, 900, rfl, g1.dr, by decide, fun first H2 g2 a2 b2 => ?_⟩
  refine ⟨_, rfl, d, 900, rfl, g2.dr, by decide, fun u3 H3 g3 a3 b3 => ⟨_, _, rfl, rfl, ?_⟩⟩
  dsimp only
  generalize hstp : (1 : Int) + u3 = stp
  have g13 := (g1.trans g2).trans g3
  have hS3 := hS.go g13
  have e3 := g13.tp hD _ _ e0
  refine ⟨Nat.le_of_ble_eq_true rfl, fun ml hml => ?_⟩
  obtain ⟨H4, e4, s4, k4⟩ := newH hml (.lst [.int 1, .int 2, .int 3, .int 4, .int 900, .int 2])
  rw [e4]
  obtain ⟨m, hm, hmm⟩ := atI_map (f := V.int) (xs := ([1, 2, 3, 4, 900, 2] : List Int)) k0 k1
  have hmb : 1 ≤ m ∧ m ≤ 900 := by
    simp only [List.mem_cons, List.not_mem_nil, or_false] at hmm
    omega
  refine ⟨_, rfl, ml, _, _, _, rfl, rfl, sqd k4, hm, ?_⟩
  have hb4 := s4 _ _ e3
  let I : L2.St → Hp → Prop := fun σ H' => ∃ (fl : Addr) (zs : List Int) (y8 y9 : Option V), σ = [some (.ref a), some (.ref d), some (.ref b0), some (.int kind), some (.int first), some (.int stp), some (.int m), some (.ref fl), y8, y9] ∧ Same H3 H' ∧ H' fl = some (.lst (zs.map V.int)) ∧ zs.length = A0.length
  have step : ∀ (D : Addr) (i : Nat) (H5 H6 : Hp) (zs : List Int) (z : Int), i < 100 → H5 D = none → Same H3 H5 → Same H5 H6 → H6 D = some (.lst (zs.map V.int)) → zs.length = i → ∃ acc, H6 D = some (.lst acc) ∧ acc.length < sizeLine ∧ (Same H5 (upd H6 D (.lst (acc ++ [V.int z]))) ∧ ∃ zs : List Int, upd H6 D (.lst (acc ++ [V.int z])) D = some (.lst (zs.map V.int)) ∧ zs.length = i + 1) := fun D i H5 H6 zs z hi hD' s5 s6 k6 hz =>
    ⟨_, k6, big' (by rw [List.length_map]; omega), same_put s6 hD', zs ++ [z], by rw [upd_same, List.map_append]; rfl, by rw [List.length_append, hz]; rfl⟩
  refine ⟨_, rfl, b0, _, rfl, .inr (sqt hb4), _, rfl, by omega, by omega, fun D hD' => ?_⟩
  refine lc_range (lo := 0) (n := ((xs.length : Nat) : Int).toNat) (fun (i : Nat) (H' : Hp) => Same H4 H' ∧ ∃ zs : List Int, H' D = some (.lst (zs.map V.int)) ∧ zs.length = i) ?_ ?_ ?_
  · exact ⟨same_new hD' _, [], upd_same, rfl⟩
  · rintro i H5 hi ⟨s5, zs, k5, hz⟩
    refine ⟨rfl, yes_if ?_⟩
    have hsm : -(2 ^ 64 : Int) < 0 + (i : Int) ∧ (0 + (i : Int)) < 2 ^ 64 := by omega
    refine ⟨_, rfl, _, rfl, _, rfl, _, _, rfl, rfl, .inr hsm, _, _, rfl, rfl, _, rfl, _, rfl, _, _, rfl, rfl, .inr hsm, _, _, rfl, rfl, .inl ⟨_, rfl, ?_⟩⟩
    refine ⟨_, rfl, _, _, rfl, rfl, by show (0 : Int) < m; omega, _, rfl, _, _, rfl, rfl, ⟨(by decide : (0 : Int) < 2), (by decide : (2 : Int) < 1073741824)⟩, _, _, rfl, rfl, ?_⟩
    exact step D i H4 H5 zs _ (by omega) hD' s4 s5 k5 hz
  rintro H5 ⟨s5, zs, k5, hz⟩
  have s35 := s4.trans s5
  -- multiples of -3
  refine ⟨I, ?_, ?_⟩
  · refine ⟨_, rfl, rfl, _, rfl, ?_⟩
    refine ite2 (fun z => ?_) (fun z => ⟨D, zs, _, _, rfl, s35, k5, by omega⟩)
    refine ⟨_, rfl, b0, _, rfl, .inr (sqt (s5 _ _ hb4)), _, rfl, by omega, by omega, fun D2 hD2 => ?_⟩
    refine lc_range (lo := 0) (n := ((xs.length : Nat) : Int).toNat) (fun (i : Nat) (H' : Hp) => Same H5 H' ∧ ∃ zs : List Int, H' D2 = some (.lst (zs.map V.int)) ∧ zs.length = i) ?_ ?_ ?_
    · exact ⟨same_new hD2 _, [], upd_same, rfl⟩
    · rintro i H6 hi ⟨s6, zs, k6, hz⟩
      refine ⟨rfl, yes_if ?_⟩
      have hsm : -(2 ^ 64 : Int) < 0 + (i : Int) ∧ (0 + (i : Int)) < 2 ^ 64 := by omega
      refine ⟨_, rfl, _, rfl, _, _, rfl, rfl, .inr hsm, ?_⟩
      exact step D2 i H5 H6 zs _ (by omega) hD2 s35 s6 k6 hz
    · rintro H6 ⟨s6, zs, k6, hz⟩
      exact ⟨D2, zs, _, _, rfl, s35.trans s6, k6, by omega⟩
  rintro σ H6 ⟨fl, zs6, y8, y9, rfl, s6, k6, hz6⟩
  -- cells of the script
  refine ⟨I, ?_, ?_⟩
  · refine ⟨_, rfl, rfl, _, rfl, ?_⟩
    refine ite2 (fun z => ?_) (fun z => iteF ⟨fl, zs6, _, _, rfl, s6, k6, hz6⟩)
    refine ⟨_, rfl, a, _, rfl, .inl (hS3.sm s6).1, _, _, rfl, rfl, _, rfl, ?_⟩
    refine ite2 (fun z2 => ?_) (fun z2 => ⟨fl, zs6, _, _, rfl, s6, k6, hz6⟩)
    have hlen : (0 : Int) < ((ns.map V.int).length : Nat) := of_decide_eq_true z2
    rw [List.length_map] at hlen
    refine ⟨_, rfl, fl, rfl, ⟨_, sqd k6⟩, fun D2 hD2 => ?_⟩
    refine lc_list (K := K) (a := fl) (xs := zs6.map V.int) (fun (i : Nat) (H' : Hp) => Same H6 H' ∧ ∃ zs : List Int, H' D2 = some (.lst (zs.map V.int)) ∧ zs.length = i) ?_ ?_ ?_ ?_
    · exact ⟨same_new hD2 _, [], upd_same, rfl⟩
    · rintro i H' _ ⟨s7, _⟩
      exact sqd (s7 _ _ k6)
    · rintro i x H7 hx ⟨s7, zs, k7, hz⟩
      rw [List.getElem?_map] at hx
      obtain ⟨c, hc, rfl⟩ := Option.map_eq_some_iff.mp hx
      have hi := (List.getElem?_eq_some_iff.mp hc).1
      refine ⟨rfl, yes_if ?_⟩
      have hm0 : (0 : Int) ≤ c % (ns.length : Int) := Int.emod_nonneg _ (by omega)
      have hm1 : c % (ns.length : Int) < (ns.length : Int) := Int.emod_lt_of_pos _ (by omega)
      obtain ⟨x, hx, _⟩ := atI_map (f := V.int) (xs := ns) hm0 hm1
      have hSq := ((hS3.sm s6).sm s7).1
      refine ⟨_, rfl, _, rfl, .inl ⟨_, rfl, _, rfl, a, _, rfl, .inl hSq, _, _, rfl, rfl, by rw [List.length_map]; omega, a, _, _, _, rfl, rfl, hSq, by rw [List.length_map]; exact hx, .inl ⟨_, rfl, ?_⟩⟩⟩
      exact step D2 i H6 H7 zs _ (by omega) hD2 s6 s7 k7 hz
    · rintro H7 ⟨s7, zs, k7, hz⟩
      rw [List.length_map] at hz
      exact ⟨D2, zs, _, _, rfl, s6.trans s7, k7, by omega⟩
  rintro σ H7 ⟨fl7, zs7, z8, z9, rfl, s7, k7, hz7⟩
  refine ⟨_, rfl, fl7, _, rfl, .inl ⟨sqd k7, fun t ht => ?_⟩⟩
  exact q t zs7 _ (g13.trans (.same g3.dr (s7.trans (same_new ht _)))) upd_same hz7
end
end NL

set_option maxHeartbeats 4000000
namespace NL
open PySem PySem.Spec PyProof.Rows L2
/-! ### the law's own known arena -/
theorem lay_intsR : ∀ l : List Int, PyData.canLayAll0 (l.map PyData.int) = true ∧ PyData.depthAll (l.map PyData.int) = 0
  | [] => ⟨rfl, rfl⟩
  | a :: r => by
    obtain ⟨h1, h2⟩ := lay_intsR r
    refine ⟨?_, ?_⟩
    · show (true && PyData.canLayAll0 (r.map PyData.int)) = true
      rw [h1]
      rfl
    · show max 0 (PyData.depthAll (r.map PyData.int)) = 0
      rw [h2]
      rfl
theorem dp_intsR {K : PySem.W.Frag} {H : Hp} : ∀ l : List Int, DpAll K H (l.map V.int) (l.map PyData.int)
  | [] => .nil
  | a :: r => .cons (.int a) (dp_intsR r)
theorem eqv_intsR : ∀ l m : List Int, PyData.eqvAll (l.map PyData.int) (m.map PyData.int) = decide (l = m)
  | [], [] => rfl
  | [], b :: m => rfl
  | a :: l, [] => rfl
  | a :: l, b :: m => by
    show ((a == b) && PyData.eqvAll (l.map PyData.int) (m.map PyData.int)) = _
    rw [eqv_intsR l m]
    by_cases h1 : a = b
    · subst h1
      by_cases h2 : l = m
      · subst h2
        simp
      · rw [decide_eq_false h2, Bool.and_false, decide_eq_false (fun h => h2 (List.cons.inj h).2)]
    · rw [beq_eq_false_iff_ne.mpr h1, Bool.false_and, decide_eq_false (fun h => h1 (List.cons.inj h).1)]
def dpG (g : List Int) : PyData := .tuple (g.map PyData.int)
theorem shaped_G (g : List Int) : SeqAt.shaped (dpG g) = true := by
  obtain ⟨h1, h2⟩ := lay_intsR g
  show (PyData.canLayAll0 (g.map PyData.int) && decide (PyData.depthAll (g.map PyData.int) + 1 ≤ 64)) = true
  rw [h1, h2]
  rfl
theorem lay_Gs : ∀ S : List (List Int), PyData.canLayAll0 (S.map dpG) = true ∧ PyData.depthAll (S.map dpG) ≤ 1
  | [] => ⟨rfl, Nat.zero_le _⟩
  | g :: r => by
    obtain ⟨h1, h2⟩ := lay_Gs r
    obtain ⟨h3, h4⟩ := lay_intsR g
    refine ⟨?_, ?_⟩
    · show (PyData.canLayAll0 (g.map PyData.int) && PyData.canLayAll0 (r.map dpG)) = true
      rw [h1, h3]
      rfl
    · show max (PyData.depthAll (g.map PyData.int) + 1) (PyData.depthAll (r.map dpG)) ≤ 1
      rw [h4]
      omega
theorem shaped_Gs (S : List (List Int)) : SeqAt.shaped (.list (S.map dpG)) = true := by
  obtain ⟨h1, h2⟩ := lay_Gs S
  show (PyData.canLayAll0 (S.map dpG) && decide (PyData.depthAll (S.map dpG) + 1 ≤ 64)) = true
  rw [h1, decide_eq_true (by omega)]
  rfl
theorem eqv_G (g h : List Int) : PyData.eqv (dpG g) (dpG h) = decide (g = h) := eqv_intsR g h
theorem dp_Gs {K : PySem.W.Frag} {H : Hp} : ∀ {S : List (List Int)} {xs : List V}, Each (OptIn H) S xs → DpAll K H xs (S.map dpG)
  | [], [], _ => .nil
  | [], x :: xs, h => by have := h.1; cases this
  | g :: S, [], h => by have := h.1; cases this
  | g :: S, x :: xs, h => by
    obtain ⟨b, rfl, hb⟩ := h.2 0 g x rfl rfl
    refine .cons (.tup (sqt hb) (dp_intsR g)) (dp_Gs ⟨Nat.succ.inj h.1, fun k a y h1 h2 => h.2 (k + 1) a y h1 h2⟩)
theorem any_Gs (S : List (List Int)) (g : List Int) : ((S.map dpG).any fun z => PyData.eqv z (dpG g)) = decide (g ∈ S) := by
  rw [List.any_map]
  refine Bool.eq_iff_iff.mpr ?_
  rw [List.any_eq_true, decide_eq_true_iff]
  constructor
  · rintro ⟨x, hx, e⟩
    have : decide (x = g) = true := (eqv_G x g) ▸ e
    exact of_decide_eq_true this ▸ hx
  · intro h
    exact ⟨g, h, (eqv_G g g).trans (decide_eq_true rfl)⟩
theorem nr_first : ∀ {S : List (List Int)} {g : List Int} {m : Nat} {z : PyData}, m < nr S g → (S.map dpG)[m]? = some z → PyData.eqv z (dpG g) = false
  | [], g, m, z, h, e => by simp at e
  | a :: r, g, m, z, h, e => by
    by_cases ha : a = g
    · have e0 : nr (a :: r) g = 0 := if_pos ha
      omega
    · have e0 : nr (a :: r) g = nr r g + 1 := if_neg ha
      cases m with
      | zero =>
        cases e
        exact (eqv_G a g).trans (decide_eq_false ha)
      | succ m => exact nr_first (S := r) (m := m) (by omega) e
theorem mem_optK {A : Ar} {rd : Int → Int} {S : List (List Int)} {Kk : List Int} {i : Nat} {x : Int} : x ∈ optK A rd S Kk i ↔ (x = -1 ∧ (-1 : Int) ∈ aft A Kk i) ∨ x ∈ (fol A rd Kk i).map fun g => ((nr S g : Nat) : Int) := by
  unfold optK
  rw [List.mem_append, mem_srt]
  refine or_congr ?_ Iff.rfl
  by_cases h : (-1 : Int) ∈ succs A Kk i
  · rw [if_pos h, List.mem_singleton]
    exact ⟨fun e => ⟨e, mem_srt.mp h⟩, fun e => e.1⟩
  · rw [if_neg h]
    exact ⟨fun e => (nomatch e), fun e => absurd (mem_srt.mpr e.2) h⟩
theorem asc_optK {A : Ar} {rd : Int → Int} {S : List (List Int)} {Kk : List Int} {i : Nat} : Asc (optK A rd S Kk i) := by
  unfold optK
  refine List.pairwise_append.mpr ⟨by split <;> simp, asc_srt, fun a ha b hb => ?_⟩
  have h1 : a = -1 := by
    split at ha
    · exact List.mem_singleton.mp ha
    · cases ha
  obtain ⟨g, _, e⟩ := List.mem_map.mp (mem_srt.mp hb)
  have e : ((nr S g : Nat) : Int) = b := e
  omega
theorem fol_srt {A : Ar} {rd : Int → Int} {Kk : List Int} {i : Nat} (h : ∀ s ∈ aft A Kk i, -1 ≤ s) : fol A rd Kk i = prt rd (srt ((aft A Kk i).filter fun p => decide (0 ≤ p))) := by
  unfold fol
  congr 1
  refine asc_ext (asc_filter _ asc_srt) asc_srt fun x => ?_
  rw [mem_srt, List.mem_filter, List.mem_filter]
  show x ∈ srt _ ∧ _ ↔ _
  rw [mem_srt]
  refine and_congr_right fun hx => ?_
  have := h x hx
  by_cases e : x = -1
  · subst e
    simp
  · rw [decide_eq_false e]
    have : (0 : Int) ≤ x := by omega
    simp [this]
theorem two_len (l : List Int) : (l.filter fun p => decide (p = -1)).length + (l.filter fun p => decide (0 ≤ p)).length ≤ l.length := by
  induction l with
  | nil => exact Nat.le_refl _
  | cons a r ih =>
    rw [List.filter_cons, List.filter_cons, List.length_cons]
    by_cases h1 : a = -1
    · subst h1
      simp
      omega
    · rw [if_neg (by simpa using h1)]
      split
      · rw [List.length_cons]
        omega
      · omega
/-- a list comprehension over a list or a tuple -/
theorem gx_lcSeq {K : PySem.W.Frag} {a : Addr} {xs : List V} {g : TG} {tt : TT} {te : TE} {vs : List Nat} {σ : L2.St} {H1 : Hp} {Qd : Addr → Hp → Prop} (h : H1 a = some (.lst xs) ∨ H1 a = some (.tup xs)) (Pv : Addr → Nat → Hp → Prop) (h0 : ∀ D, H1 D = none → Pv D 0 (upd H1 D (.lst []))) (hG : ∀ D i H, Pv D i H → H a = H1 a)
    (hs : ∀ D, H1 D = none → ∀ i x H, xs[i]? = some x → Pv D i H → g x (wipe σ vs) H fun σ2 H2 => wipe σ2 vs = wipe σ vs ∧ tt σ2 H2 fun b H3 =>
      if b = true then te σ2 H3 fun y H4 => ∃ acc, H4 D = some (.lst acc) ∧ acc.length < sizeLine ∧ Pv D (i + 1) (upd H4 D (.lst (acc ++ [y]))) else Pv D (i + 1) H3) (hd : ∀ D H, H1 D = none → Pv D xs.length H → Qd D H) :
    ((∃ xs, SqL K H1 a xs) ∧ ∀ D, H1 D = none → ∃ W : Nat → Nat → Hp → Prop, (∃ m, W 0 m (upd H1 D (.lst []))) ∧ ∀ i m H, W i m H →
      ((Itl K a).stop i H ∧ Qd D H) ∨ ((Itl K a).go i H ∧ ∃ Nx : Hp → Prop, (∀ H', Nx H' → ∃ m', m' < m ∧ W (i + 1) m' H') ∧ ∀ x H', (Itl K a).yld i H x H' → g x (wipe σ vs) H' fun σ2 H2 => wipe σ2 vs = wipe σ vs ∧ tt σ2 H2 fun b H3 =>
        if b = true then te σ2 H3 fun y H4 => ∃ acc, H4 D = some (.lst acc) ∧ acc.length < sizeLine ∧ Nx (upd H4 D (.lst (acc ++ [y]))) else Nx H3)) ∨
    ((∃ xs, SqT K H1 a xs) ∧ ∀ D, H1 D = none → ∃ W : Nat → Nat → Hp → Prop, (∃ m, W 0 m (upd H1 D (.lst []))) ∧ ∀ i m H, W i m H →
      ((Itt K a).stop i H ∧ Qd D H) ∨ ((Itt K a).go i H ∧ ∃ Nx : Hp → Prop, (∀ H', Nx H' → ∃ m', m' < m ∧ W (i + 1) m' H') ∧ ∀ x H', (Itt K a).yld i H x H' → g x (wipe σ vs) H' fun σ2 H2 => wipe σ2 vs = wipe σ vs ∧ tt σ2 H2 fun b H3 =>
        if b = true then te σ2 H3 fun y H4 => ∃ acc, H4 D = some (.lst acc) ∧ acc.length < sizeLine ∧ Nx (upd H4 D (.lst (acc ++ [y]))) else Nx H3)) := by
  rcases h with h | h
  · exact .inl ⟨⟨_, sqd h⟩, fun D hD => lc_list (xs := xs) (Pv D) (h0 D hD) (fun i H _ p => sqd (by rw [hG D i H p]; exact h)) (hs D hD) (fun H p => hd D H hD p)⟩
  · exact .inr ⟨⟨_, sqt h⟩, fun D hD => lc_tup (xs := xs) (Pv D) (h0 D hD) (fun i H _ p => sqt (by rw [hG D i H p]; exact h)) (hs D hD) (fun H p => hd D H hD p)⟩
/-- for over a range with a break -/
theorem gx_forBrk {lo : Int} {n : Nat} {g : TG} {tb : TS} {D : Ends} {σ : L2.St} {H : Hp} (Pv : Nat → L2.St → Hp → Prop) (Post : L2.St → Hp → Prop) (h0 : Pv 0 σ H)
    (hs : (∀ σ H, Post σ H → D.nx σ H) → ∀ i σ H, i < n → Pv i σ H → g (.int (lo + i)) σ H fun σ2 H2 => tb { D with nx := Pv (i + 1), ct := Pv (i + 1), bk := D.nx } σ2 H2) (hd : ∀ σ H, Pv n σ H → Post σ H) (hdone : ∀ σ H, Post σ H → D.nx σ H) :
    ∃ W : Nat → Nat → L2.St → Hp → Prop, (∃ m, W 0 m σ H) ∧ ∀ i m σ H, W i m σ H →
      ((Itr lo n).stop i H ∧ D.nx σ H) ∨ ((Itr lo n).go i H ∧ ∃ N : L2.St → Hp → Prop, (∀ σ' H', N σ' H' → ∃ m', m' < m ∧ W (i + 1) m' σ' H') ∧ ∀ x H', (Itr lo n).yld i H x H' → g x σ H' fun σ2 H2 => tb { D with nx := N, ct := N, bk := D.nx } σ2 H2) :=
  for_range Pv h0 (hs hdone) fun σ H p => hdone σ H (hd σ H p)
section
variable {P : Program} {w : World} {K : PySem.W.Frag} {mg : Str → Option Value} {base : Heap}
def spLParted : Sp := fun vs H Q _ => ∃ (ra pa : Addr) (R ps : List Int), vs = [.ref ra, .ref pa] ∧ (H pa = some (.lst (ps.map V.int)) ∨ H pa = some (.tup (ps.map V.int))) ∧ H ra = some (.tup (R.map V.int)) ∧ ps.length < 64 ∧ (∀ p ∈ ps, 0 ≤ p ∧ p < (R.length : Int)) ∧
  ∀ l xs H', Same H H' → H l = none → H' l = some (.lst xs) → Each (OptIn H') (prt (rdF R) (srt ps)) xs → Q (.ref l) H'
theorem ok_law_parted (T : Txt K mg) : FnOk P w K mg base CX0 1 T.a_law_parted T.d_law_parted P_law_parted spLParted := by
  refine T.F_law_parted.ok sc_law_parted (fun vs H Q E h => ?_) (fun cdv A outer s H vs Q E hr h => ?_)
  · obtain ⟨ra, pa, R, ps, rfl, _⟩ := h
    rfl
  obtain ⟨ra, pa, R, ps, rfl, hpa, hra, hpl, hpr, q⟩ := h
  refine ⟨_, (pss_cons (ps_set (i := 2) sc_law_parted.nd rfl (Or.inl rfl) (pe_lst pa_nil))
    (pss_cons (ps_for  PassesOwn.never rfl (pi_list (pe_callB (cr_sortedSet rfl) (by rfl) T.z_sorted (by decide +kernel) (pa_cons (pe_callTy (cr_setOfI rfl) (by rfl) T.z_set (by decide +kernel) (pa_cons (pe_lc (own := [("at", 4)]) (g := (gName 4)) (tt := tYes) rfl sc_law_parted.nd (pi_seq (pv 1)) (blkOk_by (N := N_law_parted) (sc := defScope s_law_parted) (by decide +kernel)) (fun _ _ _ _ _ => (pg_name (i := 4) sc_law_parted.nd rfl (Or.inl rfl))) (fun _ _ _ _ _ => pts_nil) (fun _ _ _ _ _ => (pe_ix (ix_tupK (K := K) rfl) (pv 0) (pv 4) (fun _ _ => rfl)))) pa_nil)) pa_nil))) (pg_name (i := 3) sc_law_parted.nd rfl (Or.inr rfl))
    (pss_one (ps_expr (pe_bm PySem.F.plainAttrs_list PySem.F.slot_list_append PySem.F.type_list_append mt_append (pv 2) (pa_cons (pe_callTy call_tuple_of (by rfl) T.z_tuple (by decide +kernel) (pa_cons (pe_callB (cr_sortedSet rfl) (by rfl) T.z_sorted (by decide +kernel) (pa_cons (pe_callTy (cr_setOfI rfl) (by rfl) T.z_set (by decide +kernel) (pa_cons (pe_lc (own := [("at", 4)]) (g := (gName 4)) (tt := _) rfl sc_law_parted.nd (pi_seq (pv 1)) (blkOk_by (N := N_law_parted) (sc := defScope s_law_parted) (by decide +kernel)) (fun _ _ _ _ _ => (pg_name (i := 4) sc_law_parted.nd rfl (Or.inl rfl))) (fun _ _ _ _ _ => (pts_one (pt_cmpR op_eq (pe_ix (ix_tupK (K := K) rfl) (pv 0) (pv 4) (fun _ _ => rfl)) (pv 3) (nomark _)))) (fun _ _ _ _ _ => (pv 4))) pa_nil)) pa_nil)) pa_nil)) pa_nil)))))
    (pss_one (ps_ret (pv 2))))), ?_⟩
  refine ⟨Nat.zero_le _, fun fl hfl => ?_⟩
  obtain ⟨H1, e1, s1, k1⟩ := newH hfl (.lst [])
  rw [e1]
  have hpS : ∀ {H' : Hp}, Same H H' → H' pa = some (.lst (ps.map V.int)) ∨ H' pa = some (.tup (ps.map V.int)) := fun s => hpa.elim (fun h => .inl (s _ _ h)) (fun h => .inr (s _ _ h))
  refine ⟨_, rfl, pa, rfl, ?_⟩
  refine gx_lcSeq (K := K) (a := pa) (xs := ps.map V.int) (hpS s1) (fun D (j : Nat) (H' : Hp) => Same H1 H' ∧ H' D = some (.lst (((ps.take j).map (rdF R)).map V.int))) (fun D hD => ⟨same_new hD _, upd_same⟩) (fun D i H' p => ?_) (fun D hD j x H2 hx p => ?_) (fun D H2 hD p => ?_)
  · rcases hpa with h | h
    · rw [p.1 _ _ (s1 _ _ h), s1 _ _ h]
    · rw [p.1 _ _ (s1 _ _ h), s1 _ _ h]
  · obtain ⟨s2, k2⟩ := p
    rw [List.getElem?_map] at hx
    obtain ⟨p, hp, rfl⟩ := Option.map_eq_some_iff.mp hx
    obtain ⟨p0, p1⟩ := hpr p (List.mem_of_getElem? hp)
    refine ⟨rfl, yes_if ?_⟩
    refine ⟨_, rfl, _, rfl, ra, _, _, _, rfl, rfl, sqt (s2 _ _ (s1 _ _ hra)), rdF_at p0 p1, _, k2, big' (by rw [List.length_map, List.length_map, List.length_take]; omega), same_put s2 hD, ?_⟩
    rw [upd_same, List.take_add_one, hp, List.map_append, List.map_append]
    rfl
  obtain ⟨s2, k2⟩ := p
  rw [List.length_map, List.take_length] at k2
  refine ⟨D, _, rfl, sqd k2, by rw [List.length_map]; exact hpl, fun s0 c hs0 hc => ?_⟩
  rw [List.length_map] at hc
  have s3 := same_new hs0 (SetO w s0 (fun j => decide (j ∈ ps.map (rdF R))) c)
  refine ⟨s0, _, c, rfl, upd_same, by omega, fun rs ql hasc hmem hlen hql => ?_⟩
  have hrs : rs = srt (ps.map (rdF R)) := srt_is hasc fun x => by rw [hmem, decide_eq_true_iff]
  obtain ⟨H4, e4, s4, k4⟩ := newH hql (.lst (rs.map V.int))
  rw [e4]
  have s14 := (s2.trans s3).trans s4
  have kf4 := s14 _ _ k1
  refine ⟨ql, rfl, ⟨_, sqd k4⟩, ?_⟩
  refine for_list (K := K) (a := ql) (xs := rs.map V.int) (fun (j : Nat) (σ : L2.St) (H' : Hp) => ∃ (y3 y4 : Option V), σ = [some (.ref ra), some (.ref pa), some (.ref fl), y3, y4] ∧ Same H H' ∧ (∀ a o, a ≠ fl → H4 a = some o → H' a = some o) ∧ ∃ xs, H' fl = some (.lst xs) ∧ Each (OptIn H') ((rs.take j).map fun r => srt (ps.filter fun p => decide (rdF R p = r))) xs) ?_ ?_ ?_ ?_
  · exact ⟨_, _, rfl, s1.trans s14, fun a o _ e => e, [], kf4, .nil⟩
  · rintro j σ H' _ ⟨y3, y4, rfl, _, fr, _⟩
    exact sqd (fr _ _ (fun z => by have h9 := (s2.trans s3) _ _ k1; rw [← z] at h9; exact absurd (h9.symm.trans hql) (fun e => nomatch e)) k4)
  · rintro j x σ H5 hx ⟨y3, y4, rfl, s5, fr, xs, k5, hxs⟩
    rw [List.getElem?_map] at hx
    obtain ⟨r, hr', rfl⟩ := Option.map_eq_some_iff.mp hx
    have hjl := (List.getElem?_eq_some_iff.mp hr').1
    have hxl := hxs.1
    rw [List.length_map, List.length_take] at hxl
    refine ⟨_, rfl, .inl ⟨rfl, _, sqd k5⟩, _, rfl, pa, rfl, ?_⟩
    refine gx_lcSeq (K := K) (a := pa) (xs := ps.map V.int) (hpS s5) (fun D (t : Nat) (H' : Hp) => Same H5 H' ∧ H' D = some (.lst (((ps.take t).filter fun p => decide (rdF R p = r)).map V.int))) (fun D hD => ⟨same_new hD _, upd_same⟩) (fun D i H' p => ?_) (fun D hD t x H6 hx2 p => ?_) (fun D H6 hD p => ?_)
    · rcases hpa with h | h
      · rw [p.1 _ _ (s5 _ _ h), s5 _ _ h]
      · rw [p.1 _ _ (s5 _ _ h), s5 _ _ h]
    · obtain ⟨s6, k6⟩ := p
      rw [List.getElem?_map] at hx2
      obtain ⟨p, hp, rfl⟩ := Option.map_eq_some_iff.mp hx2
      obtain ⟨p0, p1⟩ := hpr p (List.mem_of_getElem? hp)
      have htl := (List.getElem?_eq_some_iff.mp hp).1
      have hfl60 : ((ps.take t).filter fun p => decide (rdF R p = r)).length ≤ 63 := by
        have h1 := List.length_filter_le (fun p => decide (rdF R p = r)) (ps.take t)
        rw [List.length_take] at h1
        omega
      have hnx : (ps.take (t + 1)).filter (fun p => decide (rdF R p = r)) = (ps.take t).filter (fun p => decide (rdF R p = r)) ++ if rdF R p = r then [p] else [] := by
        rw [List.take_add_one, hp]
        exact gr_filter
      refine ⟨rfl, ?_⟩
      refine ⟨_, rfl, _, rfl, ra, _, _, _, rfl, rfl, sqt (s6 _ _ (s5 _ _ hra)), rdF_at p0 p1, _, rfl, rfl, _, rfl, ?_⟩
      by_cases h : rdF R p = r
      · refine ifT (decide_eq_true (by rw [h])) ?_
        refine ⟨_, rfl, _, k6, big' (by rw [List.length_map]; omega), same_put s6 hD, ?_⟩
        rw [upd_same, hnx, if_pos h, List.map_append]
        rfl
      · refine ifF (decide_eq_false (fun e => h (V.int.inj e))) ⟨s6, ?_⟩
        rw [hnx, if_neg h, List.append_nil]
        exact k6
    obtain ⟨s6, k6⟩ := p
    rw [List.length_map, List.take_length] at k6
    have hfl63 : (ps.filter fun p => decide (rdF R p = r)).length < 64 := Nat.lt_of_le_of_lt (List.length_filter_le _ _) hpl
    refine ⟨D, _, rfl, sqd k6, hfl63, fun s0 c hs0 hc => ?_⟩
    have s7 := same_new hs0 (SetO w s0 (fun j => decide (j ∈ ps.filter fun p => decide (rdF R p = r))) c)
    refine ⟨s0, _, c, rfl, upd_same, by omega, fun zs ql2 hasc2 hmem2 hlen2 hql2 => ?_⟩
    have hzs : zs = srt (ps.filter fun p => decide (rdF R p = r)) := srt_is hasc2 fun x => by rw [hmem2, decide_eq_true_iff]
    obtain ⟨H8, e8, s8, k8⟩ := newH hql2 (.lst (zs.map V.int))
    rw [e8]
    refine ⟨ql2, _, rfl, .inl ⟨sqd k8, fun t ht => ?_⟩⟩
    obtain ⟨H9, e9, s9, k9⟩ := newH ht (.tup (zs.map V.int))
    rw [e9]
    have s59 := ((s6.trans s7).trans s8).trans s9
    have k59 := s59 _ _ k5
    have htf : t ≠ fl := fun z => by rw [z, ((s6.trans s7).trans s8) _ _ k5] at ht; cases ht
    refine ⟨fl, xs, _, rfl, rfl, k59, big' (by omega), ?_⟩
    refine ⟨_, _, rfl, same_put (s5.trans s59) hfl, fun a o ha e => by rw [upd_ne ha]; exact s59 _ _ (fr a o ha e), xs ++ [.ref t], upd_same, ?_⟩
    rw [List.take_add_one, hr', List.map_append]
    refine (hxs.mono fun o x => OptIn.tp (tp_put (Tp.same s59) k59)).snoc ⟨t, rfl, ?_⟩
    rw [upd_ne htf, k9, hzs]
  · rintro σ H5 ⟨y3, y4, rfl, s5, fr, xs, k5, hxs⟩
    rw [List.length_map, List.take_length] at hxs
    refine ⟨_, rfl, q fl xs H5 s5 hfl k5 ?_⟩
    rw [prt_srt, ← hrs]
    exact hxs
end
end NL

set_option maxHeartbeats 4000000
namespace NL
open PySem PySem.Spec PyProof.Rows L2
/-- the lists of the law's known arena: the sets, the options found -/
structure KnL (H0 H : Hp) (sl fl : Addr) (S : List (List Int)) (F : Ar) : Prop where
  ls : ∃ xs, H sl = some (.lst xs) ∧ Each (OptIn H) S xs
  lo : ∃ zs, H fl = some (.lst zs) ∧ Each (PosIn H) F zs
  f1 : H0 sl = none
  f3 : H0 fl = none
  s : Same H0 H
theorem KnL.same {H0 H H' : Hp} {sl fl : Addr} {S : List (List Int)} {F : Ar} (h : KnL H0 H sl fl S F) (s : Same H H') : KnL H0 H' sl fl S F := by
  obtain ⟨xs, h1, h2⟩ := h.ls
  obtain ⟨zs, h6, h7⟩ := h.lo
  exact ⟨⟨xs, s _ _ h1, h2.mono fun o x => OptIn.tp (Tp.same s)⟩, ⟨zs, s _ _ h6, h7.mono fun o x => PosIn.tp (Tp.same s)⟩, h.f1, h.f3, h.s.trans s⟩
theorem KnL.add {H0 H : Hp} {sl fl : Addr} {S : List (List Int)} {F : Ar} (h : KnL H0 H sl fl S F) (hsk : sl ≠ fl) {g : List Int} {xs : List V} {b : Addr} (hxs : H sl = some (.lst xs)) (hb : H b = some (.tup (g.map V.int))) : KnL H0 (upd H sl (.lst (xs ++ [.ref b]))) sl fl (S ++ [g]) F := by
  obtain ⟨xs', h1, h2⟩ := h.ls
  rw [hxs] at h1
  cases h1
  obtain ⟨zs, h6, h7⟩ := h.lo
  have tp : Tp H (upd H sl (.lst (xs ++ [.ref b]))) := tp_put Tp.refl hxs
  exact ⟨⟨_, upd_same, (h2.mono fun o x => OptIn.tp tp).snoc ⟨b, rfl, tp _ _ hb⟩⟩, ⟨zs, by rw [upd_ne hsk.symm]; exact h6, h7.mono fun o x => PosIn.tp tp⟩, h.f1, h.f3, same_put h.s h.f1⟩
theorem KnL.row {H0 H : Hp} {sl fl : Addr} {S : List (List Int)} {F : Ar} (h : KnL H0 H sl fl S F) (hsk : sl ≠ fl) {os : Pos'} {zs : List V} {t : Addr} {ys : List V} (hzs : H fl = some (.lst zs)) (ht : H t = some (.tup ys)) (hys : Each (OptIn H) os ys) : KnL H0 (upd H fl (.lst (zs ++ [.ref t]))) sl fl S (F ++ [os]) := by
  obtain ⟨xs, h1, h2⟩ := h.ls
  obtain ⟨zs', h6, h7⟩ := h.lo
  rw [hzs] at h6
  cases h6
  have tp : Tp H (upd H fl (.lst (zs ++ [.ref t]))) := tp_put Tp.refl hzs
  exact ⟨⟨xs, by rw [upd_ne hsk]; exact h1, h2.mono fun o x => OptIn.tp tp⟩, ⟨_, upd_same, (h7.mono fun o x => PosIn.tp tp).snoc ⟨t, ys, rfl, tp _ _ ht, hys.mono fun o x => OptIn.tp tp⟩⟩, h.f1, h.f3, same_put h.s h.f3⟩
theorem KnL.put {H0 H : Hp} {sl fl ol : Addr} {S : List (List Int)} {F : Ar} (h : KnL H0 H sl fl S F) (h1 : sl ≠ ol) (h3 : fl ≠ ol) (h0 : H0 ol = none) {ys zs : List V} (hy : H ol = some (.lst ys)) : KnL H0 (upd H ol (.lst zs)) sl fl S F := by
  obtain ⟨xs, a1, a2⟩ := h.ls
  obtain ⟨zs', a6, a7⟩ := h.lo
  have tp : Tp H (upd H ol (.lst zs)) := tp_put Tp.refl hy
  exact ⟨⟨xs, by rw [upd_ne h1]; exact a1, a2.mono fun o x => OptIn.tp tp⟩, ⟨zs', by rw [upd_ne h3]; exact a6, a7.mono fun o x => PosIn.tp tp⟩, h.f1, h.f3, same_put h.s h0⟩
theorem hu65_of {A : Around} {k : Nat} (hr : Room k A) : A.units + 65 < cLine := by
  have := hr.un
  omega
/-- options lead to few positions, all of a set's positions together -/
def Sml (A : Ar) (rd : Int → Int) : Prop := ∀ g, KS rd (A.length : Int) g → ∀ i, i < wid A g → (aft A g i).length < 64
section
variable {P : Program} {w : World} {K : PySem.W.Frag} {mg : Str → Option Value} {base : Heap}
def spLKnown : Sp := fun vs H Q _ => ∃ (av : V) (ra sa : Addr) (A : Ar) (R st : List Int), vs = [av, .ref ra, .ref sa] ∧ ArIn H A av ∧ ArG A ∧ A.length ≤ 46 ∧ H ra = some (.tup (R.map V.int)) ∧ R.length = A.length ∧ H sa = some (.tup (st.map V.int)) ∧ Asc st ∧ (∀ p ∈ st, 0 ≤ p ∧ p < (A.length : Int)) ∧ Few (rdF R) (A.length : Int) ∧ Sml A (rdF R) ∧
  ∀ F S v H', Same H H' → IsKn A (rdF R) st F S → KnIn H' F S v → Q v H'
theorem ok_law_known (T : Txt K mg) : FnOk P w K mg base CX0 2 T.a_law_known T.d_law_known P_law_known spLKnown := by
  have G_law_parted := ok_law_parted (P := P) (w := w) (base := base) T
  refine T.F_law_known.ok sc_law_known (fun vs H Q E h => ?_) (fun cdv A outer s H vs Q E hr h => ?_)
  · obtain ⟨av, ra, sa, A, R, st, rfl, _⟩ := h
    rfl
  obtain ⟨av, ra, sa, A0, R, st, rfl, hA, hG, hn, hra, hRl, hsa, hst, hsm, hfew, hsml, q⟩ := h
  obtain ⟨b0, zs0, rfl, e0, hzs0⟩ := id hA
  refine ⟨_, (pss_cons (ps_set (i := 3) sc_law_known.nd rfl (Or.inl rfl) (pe_call G_law_parted (hr.mono (by omega)) (by rfl) T.m_law_parted T.F_law_parted.kp T.b_law_parted .nil pass0 (pa_cons (pv 1) (pa_cons (pv 2) pa_nil))))
    (pss_cons (ps_set (i := 4) sc_law_known.nd rfl (Or.inl rfl) (pe_lst pa_nil))
    (pss_cons (ps_for  PassesOwn.never rfl (pi_range1 (by rfl) T.z_range (pa_cons pe_int pa_nil)) (pg_name (i := 5) sc_law_known.nd rfl (Or.inl rfl))
    (pss_cons (ps_if (pt_cmpR op_ge (pv 5) (pe_callB call_len_seq (by rfl) T.z_len PySem.boot_len (pa_cons (pv 3) pa_nil)) (nomark _))
    (pss_one ps_break)
    pss_nil)
    (pss_cons (ps_set (i := 6) sc_law_known.nd rfl (Or.inl rfl) (pe_lst pa_nil))
    (pss_cons (ps_for  PassesOwn.never rfl (pi_range1 (by rfl) T.z_range (pa_cons (pe_callB (cr_min rfl) (by rfl) T.z_min (by decide +kernel) (pa_cons (pe_lc (own := [("at", 8)]) (g := (gName 8)) (tt := tYes) rfl sc_law_known.nd (pi_tup (pe_ix ix_list (pv 3) (pv 5) (fun _ _ => rfl))) (blkOk_by (N := N_law_known) (sc := defScope s_law_known) (by decide +kernel)) (fun _ _ _ _ _ => (pg_name (i := 8) sc_law_known.nd rfl (Or.inl rfl))) (fun _ _ _ _ _ => pts_nil) (fun _ _ _ _ _ => (pe_callB (call_len_seqK (K := K) rfl) (by rfl) T.z_len PySem.boot_len (pa_cons (pe_ix (ix_tupK (K := K) rfl) (pv 0) (pv 8) (fun _ _ => rfl)) pa_nil)))) pa_nil)) pa_nil)) (pg_name (i := 7) sc_law_known.nd rfl (Or.inl rfl))
    (pss_cons (ps_set (i := 9) sc_law_known.nd rfl (Or.inl rfl) (pe_lst pa_nil))
    (pss_cons (ps_for  PassesOwn.never rfl (pi_tup (pe_ix ix_list (pv 3) (pv 5) (fun _ _ => rfl))) (pg_name (i := 8) sc_law_known.nd rfl (Or.inl rfl))
    (pss_one (ps_set (i := 9) sc_law_known.nd rfl (Or.inl rfl) (pe_op op_cat (pv 9) (pe_callTy call_list_of (by rfl) T.z_list (by decide +kernel) (pa_cons (pe_ix ix_tup (pe_ix ix_tup (pv 0) (pv 8) (fun _ _ => rfl)) (pv 7) (fun _ _ => rfl)) pa_nil))))))
    (pss_cons (ps_setLc (i := 10) (own := [("at", 8)]) (g := (gName 8)) (tt := _) rfl sc_law_known.nd rfl rfl (sw_true rfl rfl rfl (by decide +kernel)) (pi_list (pv 9)) (blkOk_by (N := N_law_known) (sc := defScope s_law_known) (by decide +kernel)) (fun _ _ _ _ _ => (pg_name (i := 8) sc_law_known.nd rfl (Or.inl rfl))) (fun _ _ _ _ _ => (pts_one (pt_cmpR op_eq (pv 8) (pe_un un_neg pe_int) (nomark _)))) (fun _ _ _ _ _ => (pe_un un_neg pe_int)))
    (pss_cons (ps_for  PassesOwn.never rfl (pi_list (pe_call G_law_parted (hr.mono (by omega)) (by rfl) T.m_law_parted T.F_law_parted.kp T.b_law_parted .nil pass0 (pa_cons (pv 1) (pa_cons (pe_lc (own := [("at", 8)]) (g := (gName 8)) (tt := _) rfl sc_law_known.nd (pi_list (pv 9)) (blkOk_by (N := N_law_known) (sc := defScope s_law_known) (by decide +kernel)) (fun _ _ _ _ _ => (pg_name (i := 8) sc_law_known.nd rfl (Or.inl rfl))) (fun _ _ _ _ _ => (pts_one (pt_cmpR op_ge (pv 8) pe_int (nomark _)))) (fun _ _ _ _ _ => (pv 8))) pa_nil)))) (pg_name (i := 11) sc_law_known.nd rfl (Or.inl rfl))
    (C8.pss_cut (ps_if (pt_cmpR (op_notInD (hu65_of hr)) (pv 11) (pv 3) (by rfl))
    (pss_one (ps_expr (pe_bm PySem.F.plainAttrs_list PySem.F.slot_list_append PySem.F.type_list_append mt_append (pv 3) (pa_cons (pv 11) pa_nil))))
    pss_nil)
    (pss_one (ps_expr (pe_bm PySem.F.plainAttrs_list PySem.F.slot_list_append PySem.F.type_list_append mt_append (pv 10) (pa_cons (pe_bm PySem.F.plainAttrs_list PySem.F.slot_list_index PySem.F.type_list_index (mt_indexD (hu65_of hr)) (pv 3) (pa_cons (pv 11) pa_nil)) pa_nil))))))
    (pss_one (ps_expr (pe_bm PySem.F.plainAttrs_list PySem.F.slot_list_append PySem.F.type_list_append mt_append (pv 6) (pa_cons (pe_callTy call_tuple_of (by rfl) T.z_tuple (by decide +kernel) (pa_cons (pe_callB (cr_sortedSet rfl) (by rfl) T.z_sorted (by decide +kernel) (pa_cons (pe_callTy (cr_setOfI rfl) (by rfl) T.z_set (by decide +kernel) (pa_cons (pv 10) pa_nil)) pa_nil)) pa_nil)) pa_nil)))))))))
    (pss_one (ps_expr (pe_bm PySem.F.plainAttrs_list PySem.F.slot_list_append PySem.F.type_list_append mt_append (pv 4) (pa_cons (pe_callTy call_tuple_of (by rfl) T.z_tuple (by decide +kernel) (pa_cons (pv 6) pa_nil)) pa_nil))))))))
    (pss_one (ps_ret (pe_tup (pa_cons (pe_callTy call_tuple_of (by rfl) T.z_tuple (by decide +kernel) (pa_cons (pv 4) pa_nil)) (pa_cons (pe_callTy call_tuple_of (by rfl) T.z_tuple (by decide +kernel) (pa_cons (pv 3) pa_nil)) pa_nil)))))))), ?_⟩
  generalize hrd : rdF R = rd at *
  have hstl : st.length ≤ 60 := by
    have := asc_short (lo := 0) (hi := (A0.length : Int)) hst (fun x hx => hsm x hx) (by omega)
    omega
  refine ⟨_, rfl, _, rfl, ra, sa, R, st, rfl, .inr hsa, hra, by omega, fun p hp => by rw [hRl]; exact hsm p hp, fun sl xs H1 s1 hsl k1 hxs => ?_⟩
  rw [hrd, srt_id hst] at hxs
  refine ⟨Nat.zero_le _, fun fl hfl => ?_⟩
  obtain ⟨H2, e2, s2, k2⟩ := newH hfl (.lst [])
  rw [e2]
  have hslfl : sl ≠ fl := fun z => by rw [← z, k1] at hfl; cases hfl
  have Z0 : KnL H H2 sl fl (prt rd st) [] := ⟨⟨xs, s2 _ _ k1, hxs.mono fun o x => OptIn.tp (Tp.same s2)⟩, ⟨[], k2, .nil⟩, hsl, s1.free hfl, s1.trans s2⟩
  refine ⟨300, rfl, by decide, by decide, gx_forBrk (lo := 0) (n := (300 : Int).toNat) (fun (j : Nat) (σ : L2.St) (H' : Hp) => ∃ (S : List (List Int)) (F : Ar) (y5 y6 y7 y8 y9 y10 y11 : Option V), σ = [some (.ref b0), some (.ref ra), some (.ref sa), some (.ref sl), some (.ref fl), y5, y6, y7, y8, y9, y10, y11] ∧ kn A0 rd st j = (S, F) ∧ F.length = j ∧ KnL H H' sl fl S F)
    (fun (σ : L2.St) (H' : Hp) => ∃ (S : List (List Int)) (F : Ar) (y5 y6 y7 y8 y9 y10 y11 : Option V), σ = [some (.ref b0), some (.ref ra), some (.ref sa), some (.ref sl), some (.ref fl), y5, y6, y7, y8, y9, y10, y11] ∧ IsKn A0 rd st F S ∧ KnL H H' sl fl S F) ?_ (fun done => ?_) ?_ ?_⟩
  · exact ⟨_, _, _, _, _, _, _, _, _, rfl, rfl, rfl, Z0⟩
  rotate_left
  · rintro σ H3 ⟨S, F, y5, y6, y7, y8, y9, y10, y11, rfl, hk, hFl, Z⟩
    have I := kn_inv (rd := rd) hG hst hsm (300 : Int).toNat
    rw [hk] at I
    have I : KnI A0 rd st S F := I
    have h1 := hfew S I.nd I.ks
    have h2 := I.le
    have h3 : (300 : Int).toNat = 300 := rfl
    exact ⟨S, F, _, _, _, _, _, _, _, rfl, ⟨_, hk, by omega⟩, Z⟩
  · rintro σ H3 ⟨S, F, y5, y6, y7, y8, y9, y10, y11, rfl, hk, Z⟩
    obtain ⟨xs4, kl4, hxs4⟩ := Z.ls
    obtain ⟨zs4, ko4, hzs4⟩ := Z.lo
    refine ⟨_, rfl, fl, _, rfl, .inl ⟨sqd ko4, fun ta hta => ?_⟩⟩
    obtain ⟨H5, e5, s5, k5⟩ := newH hta (.tup zs4)
    rw [e5]
    refine ⟨_, rfl, sl, _, rfl, .inl ⟨sqd (s5 _ _ kl4), fun tb htb => ?_⟩⟩
    obtain ⟨H6, e6, s6, k6⟩ := newH htb (.tup xs4)
    rw [e6]
    refine ⟨Nat.le_of_ble_eq_true rfl, fun tc htc => ?_⟩
    obtain ⟨_, rfl, s7, k7⟩ := newH htc (.tup [.ref ta, .ref tb])
    have s57 := (s5.trans s6).trans s7
    refine q F S _ _ (Z.s.trans s57) hk ⟨tc, _, _, rfl, ?_, ⟨ta, zs4, rfl, ?_, hzs4.mono fun o x => PosIn.tp (Tp.same s57)⟩, ⟨tb, xs4, rfl, ?_, hxs4.mono fun o x => OptIn.tp (Tp.same s57)⟩⟩
    · exact k7
    · exact s7 _ _ (s6 _ _ k5)
    · exact s7 _ _ k6
  rintro j σ H4 hj ⟨S, F, y5, y6, y7, y8, y9, y10, y11, rfl, hk, hFl, Z⟩
  have I := kn_inv (rd := rd) hG hst hsm j
  rw [hk] at I
  have I : KnI A0 rd st S F := I
  have hS300 := hfew S I.nd I.ks
  obtain ⟨xs4, kl4, hxs4⟩ := Z.ls
  obtain ⟨zs4, ko4, hzs4⟩ := Z.lo
  have hxl4 := hxs4.1
  have hzl4 := hzs4.1
  have hle := I.le
  refine ⟨_, rfl, _, rfl, sl, _, rfl, .inl (sqd kl4), _, _, rfl, rfl, _, rfl, ?_⟩
  by_cases hlt : j < S.length
  rotate_left
  · refine ifT (decide_eq_true (by omega)) ?_
    exact done _ _ ⟨S, F, _, _, _, _, _, _, _, rfl, ⟨j, hk, by omega⟩, Z⟩
  refine ifF (decide_eq_false (by omega)) ?_
  obtain ⟨Kk, hKk⟩ : ∃ Kk, S[F.length]? = some Kk := ⟨_, List.getElem?_eq_getElem (by omega)⟩
  have hKS := I.ks Kk (List.mem_of_getElem? hKk)
  have hnext : kn A0 rd st (j + 1) = (rowS A0 rd Kk S (wid A0 Kk), F ++ [(List.range (wid A0 Kk)).map (optK A0 rd (rowS A0 rd Kk S (wid A0 Kk)) Kk)]) := by
    show stp A0 rd (kn A0 rd st j) = _
    rw [hk]
    unfold stp
    show (match S[F.length]? with
      | none => (S, F)
      | some Kk => (rowS A0 rd Kk S (wid A0 Kk), F ++ [(List.range (wid A0 Kk)).map (optK A0 rd (rowS A0 rd Kk S (wid A0 Kk)) Kk)])) = _
    rw [hKk]
  have I2 := kn_inv (rd := rd) hG hst hsm (j + 1)
  rw [hnext] at I2
  have I2 : KnI A0 rd st (rowS A0 rd Kk S (wid A0 Kk)) (F ++ [(List.range (wid A0 Kk)).map (optK A0 rd (rowS A0 rd Kk S (wid A0 Kk)) Kk)]) := I2
  have hW300 := hfew _ I2.nd I2.ks
  have hsmK := hsml Kk hKS
  generalize hwd : wid A0 Kk = wd at *
  obtain ⟨x1, hx1, ka, rfl, hka4⟩ := hxs4.at hKk
  have hat0 : atI xs4 (0 + (j : Int)) = some (.ref ka) := by
    rw [Int.zero_add]
    exact atI_nat (by rw [← hFl]; exact hx1)
  refine ⟨Nat.zero_le _, fun ol hol => ?_⟩
  obtain ⟨H5, e5, s5, k5⟩ := newH hol (.lst [])
  rw [e5]
  have Z5 := Z.same s5
  have hA5 : ArIn H5 A0 (.ref b0) := hA.tp (Tp.same Z5.s)
  have hKl : Kk.length ≤ 46 := by
    have := asc_short (lo := 0) (hi := (A0.length : Int)) hKS.asc (fun x hx => hKS.mem x hx) (by omega)
    omega
  refine ⟨_, rfl, _, rfl, sl, _, _, _, rfl, rfl, sqd (s5 _ _ kl4), hat0, ka, rfl, ⟨_, sqt (s5 _ _ hka4)⟩, fun wl hwl => ?_⟩
  refine lc_tup (K := K) (a := ka) (xs := Kk.map V.int) (fun (j : Nat) (H' : Hp) => Same H5 H' ∧ H' wl = some (.lst (((Kk.take j).map fun p => ((lenOf A0 p : Nat) : Int)).map V.int))) ?_ ?_ ?_ ?_
  · exact ⟨same_new hwl _, upd_same⟩
  · rintro j H' _ ⟨s6, _⟩
    exact sqt (s6 _ _ (s5 _ _ hka4))
  · rintro j x H6 hx ⟨s6, k6⟩
    rw [List.getElem?_map] at hx
    obtain ⟨p, hp, rfl⟩ := Option.map_eq_some_iff.mp hx
    obtain ⟨p0, p1⟩ := hKS.mem p (List.mem_of_getElem? hp)
    obtain ⟨os, x, hos, hat, b1, ys, rfl, eb1, hys⟩ := hzs0.atI p0 p1
    have hj := (List.getElem?_eq_some_iff.mp hp).1
    refine ⟨rfl, yes_if ?_⟩
    refine ⟨_, rfl, _, rfl, b0, _, _, _, rfl, rfl, sqt (s6 _ _ (Z5.s _ _ e0)), hat, b1, _, rfl, .inr (sqt (s6 _ _ (Z5.s _ _ eb1))), _, k6, big' (by rw [List.length_map, List.length_map, List.length_take]; omega), same_put s6 hwl, ?_⟩
    rw [upd_same, List.take_add_one, hp, List.map_append, List.map_append, hys.1, ← lenOf_at hos]
    rfl
  rintro H6 ⟨s6, k6⟩
  rw [List.length_map, List.take_length] at k6
  refine ⟨wl, _, rfl, sqd k6, by rw [List.length_map]; exact List.length_pos_iff.mpr hKS.ne, fun mn hmn hmle => ?_⟩
  have hmw : mn = ((wd : Nat) : Int) := by
    obtain ⟨p, hp, e⟩ := List.mem_map.mp hmn
    have h1 : mn.toNat = wid A0 Kk := wid_is (fun p hp => by have := hmle _ (List.mem_map.mpr ⟨p, hp, rfl⟩); omega) ⟨p, hp, by omega⟩
    rw [hwd] at h1
    omega
  have hwd12 : wd ≤ 12 := by
    obtain ⟨p, hp, e⟩ := wid_mem (A := A0) hKS.ne
    rw [hwd] at e
    obtain ⟨p0, p1⟩ := hKS.mem p hp
    have hk2 : p.toNat < A0.length := by omega
    have := (hG.2 _ (List.getElem_mem hk2)).1
    have e2 := lenOf_at (A := A0) (p := p) (List.getElem?_eq_getElem hk2)
    omega
  have hwle : ∀ i, i < wd → ∀ p ∈ Kk, i < lenOf A0 p := fun i hi p hp => by
    have := wid_le (A := A0) p hp
    omega
  have s56 : Same H4 H6 := s5.trans s6
  have Z6 := Z5.same s6
  have hslO : sl ≠ ol := fun z => by rw [← z, kl4] at hol; cases hol
  have hflO : fl ≠ ol := fun z => by rw [← z, ko4] at hol; cases hol
  refine ⟨mn, rfl, by omega, by omega, for_range (lo := 0) (n := mn.toNat) (fun (i : Nat) (σ : L2.St) (H' : Hp) => ∃ (y7 y8 y9 y10 y11 : Option V), σ = [some (.ref b0), some (.ref ra), some (.ref sa), some (.ref sl), some (.ref fl), some (.int (0 + (j : Int))), some (.ref ol), y7, y8, y9, y10, y11] ∧ KnL H H' sl fl (rowS A0 rd Kk S i) F ∧ H' ka = some (.tup (Kk.map V.int)) ∧ ∃ os, H' ol = some (.lst os) ∧ Each (OptIn H') ((List.range i).map (optK A0 rd (rowS A0 rd Kk S wd) Kk)) os) ?_ ?_ ?_⟩
  · exact ⟨_, _, _, _, _, rfl, Z6, s56 _ _ hka4, [], s6 _ _ k5, .nil⟩
  · rintro i σ H7 hi ⟨y7, y8, y9, y10, y11, rfl, Z7, hka7, os7, kol7, hos7⟩
    have hiw : i < wd := by omega
    have hfolG := fol_ks hG hKS (i := i) (by rw [hwd]; exact hiw)
    obtain ⟨xs7, kl7, hxs7⟩ := Z7.ls
    have hrowK : (rowS A0 rd Kk S i)[F.length]? = some Kk := by
      obtain ⟨T, hT⟩ := rowS_pre (A := A0) (rd := rd) (K := Kk) (S := S) i
      rw [hT, List.getElem?_append_left (by omega)]
      exact hKk
    obtain ⟨x7, hx7, kb, rfl, hkb7⟩ := hxs7.at hrowK
    have hat7 : atI xs7 (0 + (j : Int)) = some (.ref kb) := by
      rw [Int.zero_add]
      exact atI_nat (by rw [← hFl]; exact hx7)
    have haft64 := hsmK i (by omega)
    have haR : ∀ s ∈ aft A0 Kk i, -1 ≤ s ∧ s < (A0.length : Int) := fun s hs => succs_mem hG hKS.mem (hwle i hiw) s (mem_srt.mpr hs)
    refine ⟨Nat.zero_le _, fun al hal => ?_⟩
    obtain ⟨H8, e8, s8, k8⟩ := newH hal (.lst [])
    rw [e8]
    refine ⟨_, rfl, _, rfl, sl, _, _, _, rfl, rfl, sqd (s8 _ _ kl7), hat7, kb, rfl, ⟨_, sqt (s8 _ _ hkb7)⟩, ?_⟩
    refine for_tup (K := K) (a := kb) (xs := Kk.map V.int) (fun (t : Nat) (σ : L2.St) (H' : Hp) => ∃ (y8 : Option V) (al : Addr), σ = [some (.ref b0), some (.ref ra), some (.ref sa), some (.ref sl), some (.ref fl), some (.int (0 + (j : Int))), some (.ref ol), some (.int (0 + (i : Int))), y8, some (.ref al), y10, y11] ∧ Same H7 H' ∧ H7 al = none ∧ H' al = some (.lst (((Kk.take t).flatMap fun p => optOf A0 p i).map V.int))) ?_ ?_ ?_ ?_
    · exact ⟨_, al, rfl, s8, hal, k8⟩
    · rintro t σ H' _ ⟨y8, al, rfl, s9, _⟩
      exact sqt (s9 _ _ hkb7)
    · rintro t x σ H9 hx ⟨y8, al, rfl, s9, hal7, k9⟩
      rw [List.getElem?_map] at hx
      obtain ⟨p, hp, rfl⟩ := Option.map_eq_some_iff.mp hx
      have hpm := List.mem_of_getElem? hp
      obtain ⟨p0, p1⟩ := hKS.mem p hpm
      obtain ⟨os, o, hos, ho, eo, el, hO, _⟩ := optOf_g hG p0 p1 (hwle i hiw p hpm)
      obtain ⟨os', x, hos', hat, b1, ys, rfl, eb1, hys⟩ := hzs0.atI p0 p1
      rw [hos] at hos'
      cases hos'
      obtain ⟨y, hy, b2, rfl, eb2⟩ := hys.at ho
      have s09 := Z7.s.trans s9
      have hl63 : ((Kk.take t).flatMap fun p => optOf A0 p i).length + o.length ≤ 63 := by
        have h1 : (aft A0 Kk i).length = ((Kk.take t).flatMap fun p => optOf A0 p i).length + ((Kk.drop t).flatMap fun p => optOf A0 p i).length := by
          unfold aft
          rw [← List.length_append, ← List.flatMap_append, List.take_append_drop]
        have h2 : Kk.drop t = p :: Kk.drop (t + 1) := by
          obtain ⟨h3, h4⟩ := List.getElem?_eq_some_iff.mp hp
          rw [List.drop_eq_getElem_cons h3, h4]
        rw [h2, List.flatMap_cons, List.length_append, eo] at h1
        omega
      refine ⟨_, rfl, _, rfl, _, rfl, b0, _, _, _, rfl, rfl, sqt (s09 _ _ e0), hat, _, rfl, b1, _, _, _, rfl, rfl, sqt (s09 _ _ eb1), by rw [Int.zero_add]; exact atI_nat hy, b2, _, rfl, .inr (sqt (s09 _ _ eb2)), fun l2 hl2 => ?_⟩
      obtain ⟨HA, eA, sA, kA⟩ := newH hl2 (.lst (o.map V.int))
      rw [eA]
      refine ⟨al, l2, _, _, rfl, rfl, sA _ _ k9, kA, big (by rw [List.length_map, List.length_map]; omega), fun p3 hp3 => ?_⟩
      obtain ⟨HB, eB, sB, kB⟩ := newH hp3 (.lst (((Kk.take t).flatMap fun p => optOf A0 p i).map V.int ++ o.map V.int))
      rw [eB]
      refine ⟨_, p3, rfl, (s9.trans sA).trans sB, (s9.trans sA).free hp3, ?_⟩
      rw [kB, List.take_add_one, hp, List.flatMap_append, List.map_append]
      congr 2
      show _ = _ ++ ([p].flatMap fun p => optOf A0 p i).map V.int
      rw [List.flatMap_cons, List.flatMap_nil, List.append_nil, eo]
    rintro σ H9 ⟨y8', al9, rfl, s9, hal9, k9⟩
    rw [List.length_map, List.take_length] at k9
    have k9 : H9 al9 = some (.lst ((aft A0 Kk i).map V.int)) := k9
    have Z9 := Z7.same s9
    refine ⟨_, rfl, al9, rfl, ⟨_, sqd k9⟩, fun nl hnl => ?_⟩
    refine lc_list (K := K) (a := al9) (xs := (aft A0 Kk i).map V.int) (fun (t : Nat) (H' : Hp) => Same H9 H' ∧ ∃ ns : List Int, H' nl = some (.lst (ns.map V.int)) ∧ ns.length = (((aft A0 Kk i).take t).filter fun p => decide (p = -1)).length ∧ ∀ x, x ∈ ns ↔ x = -1 ∧ (-1 : Int) ∈ (aft A0 Kk i).take t) ?_ ?_ ?_ ?_
    · exact ⟨same_new hnl _, [], upd_same, rfl, fun x => ⟨fun h => (nomatch h), fun h => by rw [List.take_zero] at h; exact nomatch h.2⟩⟩
    · rintro t H' _ ⟨sA, _⟩
      exact sqd (sA _ _ k9)
    · rintro t x HA hx ⟨sA, ns, kA, hnsl, hns⟩
      rw [List.getElem?_map] at hx
      obtain ⟨p, hp, rfl⟩ := Option.map_eq_some_iff.mp hx
      have htl := (List.getElem?_eq_some_iff.mp hp).1
      have hfl63 := List.length_filter_le (fun p : Int => decide (p = -1)) ((aft A0 Kk i).take t)
      rw [List.length_take] at hfl63
      refine ⟨rfl, ?_⟩
      refine ⟨_, rfl, _, rfl, rfl, _, rfl, ?_⟩
      have htk : (aft A0 Kk i).take (t + 1) = (aft A0 Kk i).take t ++ [p] := by rw [List.take_add_one, hp]; rfl
      by_cases h : p = -1
      · subst h
        refine ifT (decide_eq_true rfl) ?_
        refine ⟨_, rfl, _, kA, big' (by rw [List.length_map]; omega), same_put sA hnl, ns ++ [-1], by rw [upd_same, List.map_append]; rfl, ?_, fun x => ?_⟩
        · rw [htk, List.filter_append, List.length_append, List.length_append, hnsl]
          rfl
        · rw [htk, List.mem_append, List.mem_append, hns, List.mem_singleton]
          constructor
          · rintro (h | h)
            · exact ⟨h.1, .inl h.2⟩
            · exact ⟨h, .inr (List.mem_singleton.mpr rfl)⟩
          · rintro ⟨h, _⟩
            exact .inr h
      · refine ifF (decide_eq_false (fun e => h (V.int.inj e))) ⟨sA, ns, kA, ?_, fun x => ?_⟩
        · rw [htk, List.filter_append, List.length_append, hnsl, List.filter_cons, if_neg (by simpa using h)]
          rfl
        · rw [hns, htk, List.mem_append, List.mem_singleton]
          exact and_congr_right fun _ => ⟨.inl, fun q => q.elim id fun e => absurd e.symm h⟩
    rintro HA ⟨sA, ns, kA, hnsl, hns⟩
    rw [List.length_map, List.take_length] at hnsl hns
    have kA9 := sA _ _ k9
    refine ⟨_, rfl, _, rfl, al9, rfl, ⟨_, sqd kA9⟩, fun ql hql => ?_⟩
    refine lc_list (K := K) (a := al9) (xs := (aft A0 Kk i).map V.int) (fun (t : Nat) (H' : Hp) => Same HA H' ∧ H' ql = some (.lst ((((aft A0 Kk i).take t).filter fun p => decide (0 ≤ p)).map V.int))) ?_ ?_ ?_ ?_
    · exact ⟨same_new hql _, upd_same⟩
    · rintro t H' _ ⟨sB, _⟩
      exact sqd (sB _ _ kA9)
    · rintro t x HB hx ⟨sB, kB⟩
      rw [List.getElem?_map] at hx
      obtain ⟨p, hp, rfl⟩ := Option.map_eq_some_iff.mp hx
      have htl := (List.getElem?_eq_some_iff.mp hp).1
      have hfl63 := List.length_filter_le (fun p : Int => decide (0 ≤ p)) ((aft A0 Kk i).take t)
      rw [List.length_take] at hfl63
      have hnx : ((aft A0 Kk i).take (t + 1)).filter (fun p => decide (0 ≤ p)) = ((aft A0 Kk i).take t).filter (fun p => decide (0 ≤ p)) ++ if 0 ≤ p then [p] else [] := by
        rw [List.take_add_one, hp, List.filter_append]
        congr 1
        by_cases h : 0 ≤ p
        · rw [if_pos h]
          simp [h]
        · rw [if_neg h]
          simp [h]
      refine ⟨rfl, ?_⟩
      refine ⟨_, rfl, _, _, rfl, rfl, _, rfl, ?_⟩
      by_cases h : 0 ≤ p
      · refine ifT (decide_eq_true h) ?_
        refine ⟨_, rfl, _, kB, big' (by rw [List.length_map]; omega), same_put sB hql, ?_⟩
        rw [upd_same, hnx, if_pos h, List.map_append]
        rfl
      · refine ifF (decide_eq_false h) ⟨sB, ?_⟩
        rw [hnx, if_neg h, List.append_nil]
        exact kB
    rintro HB ⟨sB, kB⟩
    rw [List.length_map, List.take_length] at kB
    have h2l := two_len (aft A0 Kk i)
    have s7B := (s9.trans sA).trans sB
    refine ⟨ra, ql, R, _, rfl, .inl kB, s7B _ _ (Z7.s _ _ hra), by omega, fun p hp => ?_, fun gl gxs HC sC hgl kC hgx => ?_⟩
    · obtain ⟨h1, h2⟩ := List.mem_filter.mp hp
      have h2 := of_decide_eq_true h2
      have := haR p h1
      omega
    rw [hrd, ← fol_srt (fun s hs => (haR s hs).1)] at hgx
    have hGl : (fol A0 rd Kk i).length ≤ ((aft A0 Kk i).filter fun p => decide (0 ≤ p)).length := by
      rw [fol_srt (fun s hs => (haR s hs).1)]
      exact Nat.le_trans prt_len srt_len
    have s7C := s7B.trans sC
    have ZC := Z7.same s7C
    have s9C := (sA.trans sB).trans sC
    have knC := (sB.trans sC) _ _ kA
    have kolC := s7C _ _ kol7
    have hrowE : addS (rowS A0 rd Kk S i) (fol A0 rd Kk i) = rowS A0 rd Kk S (i + 1) := rfl
    have e1 : optK A0 rd (rowS A0 rd Kk S wd) Kk i = optK A0 rd (rowS A0 rd Kk S (i + 1)) Kk i := by
      obtain ⟨T, hT⟩ := rowS_le (A := A0) (rd := rd) (K := Kk) (S := S) (show i + 1 ≤ wd from hiw)
      rw [hT]
      exact optK_app fun g hg => rowS_fol (Nat.lt_succ_self i) g hg
    have hmo := fun x => mem_optK (A := A0) (rd := rd) (S := rowS A0 rd Kk S (i + 1)) (Kk := Kk) (i := i) (x := x)
    generalize hGf : fol A0 rd Kk i = Gf at *
    have hgxl := hgx.1
    have nlne : nl ≠ sl ∧ nl ≠ fl ∧ nl ≠ ol := by
      refine ⟨fun z => ?_, fun z => ?_, fun z => ?_⟩
      · rw [z, s9 _ _ kl7] at hnl
        cases hnl
      · obtain ⟨zs, h1, _⟩ := Z9.lo
        rw [z, h1] at hnl
        cases hnl
      · rw [z, s9 _ _ kol7] at hnl
        cases hnl
    have glne : gl ≠ sl ∧ gl ≠ nl := by
      refine ⟨fun z => ?_, fun z => ?_⟩
      · rw [z, s7B _ _ kl7] at hgl
        cases hgl
      · rw [z, sB _ _ kA] at hgl
        cases hgl
    refine ⟨gl, rfl, ⟨_, sqd kC⟩, ?_⟩
    refine for_list (K := K) (a := gl) (xs := gxs) (fun (t : Nat) (σ : L2.St) (H' : Hp) => ∃ (y11 : Option V) (ns : List Int), σ = [some (.ref b0), some (.ref ra), some (.ref sa), some (.ref sl), some (.ref fl), some (.int (0 + (j : Int))), some (.ref ol), some (.int (0 + (i : Int))), y8', some (.ref al9), some (.ref nl), y11] ∧ KnL H H' sl fl (addS (rowS A0 rd Kk S i) (Gf.take t)) F ∧ (∀ a o, a ≠ sl → a ≠ nl → HC a = some o → H' a = some o) ∧ H' nl = some (.lst (ns.map V.int)) ∧ ns.length = ((aft A0 Kk i).filter fun p => decide (p = -1)).length + t ∧
      ∀ x, x ∈ ns ↔ (x = -1 ∧ (-1 : Int) ∈ aft A0 Kk i) ∨ x ∈ (Gf.take t).map fun g => ((nr (rowS A0 rd Kk S (i + 1)) g : Nat) : Int)) ?_ ?_ ?_ ?_
    · exact ⟨_, ns, rfl, by rw [List.take_zero]; exact ZC, fun a o _ _ e => e, knC, hnsl, fun x => by rw [hns, List.take_zero]; simp⟩
    · rintro t σ H' _ ⟨y11, ns, rfl, _, fr, _⟩
      exact sqd (fr _ _ glne.1 glne.2 kC)
    · rintro t x σ HD hx ⟨y11, ns, rfl, ZD, fr, kD, hnl2, hns2⟩
      have htl : t < gxs.length := (List.getElem?_eq_some_iff.mp hx).1
      obtain ⟨g, hg⟩ : ∃ g, Gf[t]? = some g := ⟨_, List.getElem?_eq_getElem (by omega)⟩
      obtain ⟨bg, rfl, hbg⟩ := hgx.2 t g x hg hx
      have hbgD := fr _ _ (fun z => by rw [z, s7C _ _ kl7] at hbg; cases hbg) (fun z => by rw [z, knC] at hbg; cases hbg) hbg
      obtain ⟨xsD, klD, hxsD⟩ := ZD.ls
      have hxlD := hxsD.1
      have hSD300 : (addS (rowS A0 rd Kk S i) (Gf.take t)).length ≤ 300 := by
        refine hfew _ (addS_nodup (rowS_nodup I.nd i)) fun x hx => ?_
        rcases mem_addS.mp hx with h | h
        · exact rowS_ks hG hKS I.ks i (by omega) x h
        · exact hfolG x (List.mem_of_mem_take h)
      have hadd : addS (rowS A0 rd Kk S i) (Gf.take (t + 1)) = if g ∈ addS (rowS A0 rd Kk S i) (Gf.take t) then addS (rowS A0 rd Kk S i) (Gf.take t) else addS (rowS A0 rd Kk S i) (Gf.take t) ++ [g] := by
        rw [List.take_add_one, hg]
        exact addS_app _ _ _
      refine ⟨fun σ H' => σ = [some (.ref b0), some (.ref ra), some (.ref sa), some (.ref sl), some (.ref fl), some (.int (0 + (j : Int))), some (.ref ol), some (.int (0 + (i : Int))), y8', some (.ref al9), some (.ref nl), some (.ref bg)] ∧ KnL H H' sl fl (addS (rowS A0 rd Kk S i) (Gf.take (t + 1))) F ∧ (∀ a o, a ≠ sl → a ≠ nl → HC a = some o → H' a = some o) ∧ H' nl = some (.lst (ns.map V.int)) ∧ H' bg = some (.tup (g.map V.int)), ?_, ?_⟩
      · refine ⟨_, rfl, _, rfl, dpG g, _, .tup (sqt hbgD) (dp_intsR g), .lst (sqd klD) (dp_Gs hxsD), shaped_G g, shaped_Gs _, _, rfl, ?_⟩
        rw [any_Gs]
        by_cases hgS : g ∈ addS (rowS A0 rd Kk S i) (Gf.take t)
        · rw [decide_eq_true hgS]
          refine ifF rfl ⟨rfl, ?_, fr, kD, hbgD⟩
          rw [hadd, if_pos hgS]
          exact ZD
        · rw [decide_eq_false hgS]
          refine ifT rfl ?_
          refine ⟨_, rfl, .inl ⟨rfl, _, sqd klD⟩, _, rfl, sl, _, _, rfl, rfl, klD, big' (by omega), rfl, ?_, fun a o h1 h2 e => by rw [upd_ne h1]; exact fr a o h1 h2 e, by rw [upd_ne nlne.1]; exact kD, ?_⟩
          · rw [hadd, if_neg hgS]
            exact ZD.add hslfl klD hbgD
          · rw [upd_ne (fun z => by rw [z, klD] at hbgD; cases hbgD)]
            exact hbgD
      rintro σ HE ⟨rfl, ZE, frE, knE, hbgE⟩
      obtain ⟨xsE, klE, hxsE⟩ := ZE.ls
      have hgE : g ∈ addS (rowS A0 rd Kk S i) (Gf.take (t + 1)) := by
        rw [hadd]
        split
        · assumption
        · simp
      have hget : ((addS (rowS A0 rd Kk S i) (Gf.take (t + 1))).map dpG)[nr (addS (rowS A0 rd Kk S i) (Gf.take (t + 1))) g]? = some (dpG g) := by rw [List.getElem?_map, nr_get hgE]; rfl
      have hnrE : nr (rowS A0 rd Kk S (i + 1)) g = nr (addS (rowS A0 rd Kk S i) (Gf.take (t + 1))) g := by
        have hpre : ∃ T, addS (rowS A0 rd Kk S i) Gf = addS (rowS A0 rd Kk S i) (Gf.take (t + 1)) ++ T := by
          have haux : ∀ (G1 G2 : List (List Int)) (S : List (List Int)), addS S (G1 ++ G2) = addS (addS S G1) G2 := fun G1 => by
            induction G1 with
            | nil => exact fun _ _ => rfl
            | cons a r ih => exact fun G2 S => ih G2 _
          obtain ⟨T, hT⟩ := addS_pre (G := Gf.drop (t + 1)) (S := addS (rowS A0 rd Kk S i) (Gf.take (t + 1)))
          refine ⟨T, ?_⟩
          rw [← hT, ← haux, List.take_append_drop]
        obtain ⟨T, hT⟩ := hpre
        rw [← hrowE, hT, nr_app hgE]
      refine ⟨_, rfl, .inl ⟨rfl, _, sqd knE⟩, _, rfl, .inl ⟨rfl, _, sqd klE⟩, _, rfl, sl, _, dpG g, _, _, _, rfl, rfl, .lst (sqd klE) (dp_Gs hxsE), .tup (sqt hbgE) (dp_intsR g), shaped_Gs _, shaped_G g, hget, (eqv_G g g).trans (decide_eq_true rfl), fun m z hm hz => nr_first hm hz, ?_⟩
      refine ⟨nl, _, _, rfl, rfl, knE, big' (by rw [List.length_map]; omega), ?_⟩
      refine ⟨_, ns ++ [((nr (rowS A0 rd Kk S (i + 1)) g : Nat) : Int)], rfl, ZE.put nlne.1.symm nlne.2.1.symm ((Z7.s.trans s9).free hnl) knE, fun a o h1 h2 e => by rw [upd_ne h2]; exact frE a o h1 h2 e, by rw [upd_same, List.map_append, hnrE]; rfl, by rw [List.length_append, hnl2]; rfl, fun x => ?_⟩
      rw [List.mem_append, hns2, List.take_add_one, hg, List.map_append, List.mem_append, or_assoc]
      rfl
    rintro σ HD ⟨y11', ns, rfl, ZD, fr, kD, hnl2, hns2⟩
    rw [hgxl, List.take_length] at ZD hns2
    rw [hrowE] at ZD
    have kolD := fr _ _ hslO.symm nlne.2.2.symm kolC
    refine ⟨_, rfl, .inl ⟨rfl, _, sqd kolD⟩, _, rfl, nl, ns, rfl, sqd kD, by omega, fun s0 c hs0 hc => ?_⟩
    have sE := same_new hs0 (SetO w s0 (fun j => decide (j ∈ ns)) c)
    refine ⟨s0, _, c, rfl, upd_same, by omega, fun zs q1 hasc hmem hlen hq1 => ?_⟩
    have hzs : zs = optK A0 rd (rowS A0 rd Kk S (i + 1)) Kk i := asc_ext hasc asc_optK fun x => by rw [hmem, decide_eq_true_iff, hns2, hmo]
    obtain ⟨HF, eF, sF, kF⟩ := newH hq1 (.lst (zs.map V.int))
    rw [eF]
    refine ⟨q1, _, rfl, .inl ⟨sqd kF, fun tp htp => ?_⟩⟩
    obtain ⟨HG, eG, sG, kG⟩ := newH htp (.tup (zs.map V.int))
    rw [eG]
    have sDG := (sE.trans sF).trans sG
    have kolG := sDG _ _ kolD
    have hosl := hos7.1
    rw [List.length_map, List.length_range] at hosl
    have tpp : Tp HG (upd HG ol (.lst (os7 ++ [.ref tp]))) := tp_put Tp.refl kolG
    have tp7 : Tp H7 HG := fun a ys e => sDG _ _ (fr _ _ (fun q => by rw [q, kl7] at e; cases e) (fun q => by rw [q] at e; rw [s9 _ _ e] at hnl; cases hnl) (s7C _ _ e))
    have htpol : tp ≠ ol := fun z => by rw [z, (sE.trans sF) _ _ kolD] at htp; cases htp
    refine ⟨ol, os7, _, rfl, rfl, kolG, big' (by omega), ?_⟩
    have hkaG := tp7 _ _ hka7
    refine ⟨_, _, _, _, _, rfl, (ZD.same sDG).put hslO hflO (Z.s.free hol) kolG, by rw [upd_ne (fun z => by rw [z, kolG] at hkaG; cases hkaG)]; exact hkaG, os7 ++ [.ref tp], upd_same, ?_⟩
    rw [List.range_succ, List.map_append]
    refine (hos7.mono fun o x h => OptIn.tp (tp7.trans tpp) h).snoc ⟨tp, rfl, ?_⟩
    rw [upd_ne htpol, kG, e1, ← hzs]
  · rintro σ H7 ⟨y7, y8, y9, y10, y11, rfl, Z7, hka7, os7, kol7, hos7⟩
    rw [show mn.toNat = wd by omega] at Z7 hos7
    obtain ⟨zs7, ko7, hzs7⟩ := Z7.lo
    have hzl7 := hzs7.1
    refine ⟨_, rfl, .inl ⟨rfl, _, sqd ko7⟩, _, rfl, ol, _, rfl, .inl ⟨sqd kol7, fun t ht => ?_⟩⟩
    obtain ⟨H8, e8, s8, k8⟩ := newH ht (.tup os7)
    rw [e8]
    refine ⟨fl, zs7, _, rfl, rfl, s8 _ _ ko7, big' (by omega), ?_⟩
    exact ⟨_, _, _, _, _, _, _, _, _, rfl, hnext, by rw [List.length_append, List.length_singleton, hFl], (Z7.same s8).row hslfl (s8 _ _ ko7) k8 (hos7.mono fun o x => OptIn.tp (Tp.same s8))⟩
end
end NL

set_option maxHeartbeats 4000000
namespace NL
open PySem PySem.Spec PyProof.Rows L2
/-! ### few known sets -/
def pw : List Int → List (List Int)
  | [] => [[]]
  | a :: r => pw r ++ (pw r).map (a :: ·)
theorem pw_len : ∀ l : List Int, (pw l).length = 2 ^ l.length
  | [] => rfl
  | a :: r => by
    unfold pw
    rw [List.length_append, List.length_map, pw_len r, List.length_cons, Nat.pow_succ]
    omega
theorem mem_pw : ∀ {l g : List Int}, Asc l → Asc g → (∀ x ∈ g, x ∈ l) → g ∈ pw l
  | [], [], _, _, _ => List.mem_singleton.mpr rfl
  | [], a :: g, _, _, h => by have := h a List.mem_cons_self; cases this
  | a :: r, g, hl, hg, h => by
    obtain ⟨h1, h2⟩ := List.pairwise_cons.mp hl
    unfold pw
    by_cases ha : a ∈ g
    · cases g with
      | nil => cases ha
      | cons b t =>
        obtain ⟨g1, g2⟩ := List.pairwise_cons.mp hg
        have e : a = b := by
          rcases List.mem_cons.mp ha with e | e
          · exact e
          · have q1 := g1 a e
            rcases List.mem_cons.mp (h b List.mem_cons_self) with e' | e'
            · exact e'.symm
            · have q2 := h1 b e'
              omega
        subst e
        refine List.mem_append_right _ (List.mem_map.mpr ⟨t, mem_pw h2 g2 fun x hx => ?_, rfl⟩)
        rcases List.mem_cons.mp (h x (List.mem_cons_of_mem _ hx)) with e' | e'
        · have := g1 x hx
          omega
        · exact e'
    · refine List.mem_append_left _ (mem_pw h2 hg fun x hx => ?_)
      rcases List.mem_cons.mp (h x hx) with e' | e'
      · exact absurd (e' ▸ hx) ha
      · exact e'
theorem nd_sub : ∀ {S U : List (List Int)}, S.Nodup → (∀ x ∈ S, x ∈ U) → S.length ≤ U.length
  | [], _, _, _ => Nat.zero_le _
  | a :: S, U, h, hs => by
    obtain ⟨h1, h2⟩ := List.nodup_cons.mp h
    have ha := hs a List.mem_cons_self
    have := nd_sub (U := U.erase a) h2 fun x hx => (List.mem_erase_of_ne (fun e => h1 (by rw [← e]; exact hx))).mpr (hs x (List.mem_cons_of_mem _ hx))
    rw [List.length_erase_of_mem ha] at this
    have hp := List.length_pos_of_mem ha
    rw [List.length_cons]
    omega
def psI (n : Nat) : List Int := (List.range n).map fun k : Nat => (k : Int)
theorem mem_psI {n : Nat} {p : Int} : p ∈ psI n ↔ 0 ≤ p ∧ p < (n : Int) := by
  unfold psI
  rw [List.mem_map]
  constructor
  · rintro ⟨k, hk, rfl⟩
    have := List.mem_range.mp hk
    omega
  · intro h
    exact ⟨p.toNat, List.mem_range.mpr (by omega), by omega⟩
theorem asc_psI (n : Nat) : Asc (psI n) := by
  unfold psI
  refine List.pairwise_map.mpr (List.pairwise_lt_range.imp fun {a b} h => by omega)
def lat (rd : Int → Int) (n : Nat) (p : Int) : List Int := (psI n).filter fun q => decide (p < q) && decide (rd p = rd q)
def unv (rd : Int → Int) (n : Nat) : List (List Int) := (psI n).flatMap fun p => (pw (lat rd n p)).map (p :: ·)
/-- equal readings stand near each other -/
def Near (rd : Int → Int) (n k : Nat) : Prop := ∀ p q : Int, 0 ≤ p → p < q → q < (n : Int) → rd p = rd q → q ≤ p + (k : Int)
theorem ks_unv {rd : Int → Int} {n : Nat} {g : List Int} (h : KS rd (n : Int) g) : g ∈ unv rd n := by
  cases g with
  | nil => exact absurd rfl h.ne
  | cons p t =>
    obtain ⟨h1, h2⟩ := List.pairwise_cons.mp h.asc
    refine List.mem_flatMap.mpr ⟨p, mem_psI.mpr (h.mem p List.mem_cons_self), List.mem_map.mpr ⟨t, mem_pw (asc_filter _ (asc_psI n)) h2 fun x hx => ?_, rfl⟩⟩
    refine List.mem_filter.mpr ⟨mem_psI.mpr (h.mem x (List.mem_cons_of_mem _ hx)), ?_⟩
    rw [decide_eq_true (h1 x hx), decide_eq_true (h.one p List.mem_cons_self x (List.mem_cons_of_mem _ hx))]
    rfl
theorem lat_len {rd : Int → Int} {n k : Nat} (h : Near rd n k) {p : Int} (hp : 0 ≤ p) : (lat rd n p).length ≤ k := by
  have := asc_short (l := lat rd n p) (lo := p + 1) (hi := p + 1 + (k : Int)) (asc_filter _ (asc_psI n)) (fun x hx => by
    obtain ⟨h1, h2⟩ := List.mem_filter.mp hx
    rw [Bool.and_eq_true, decide_eq_true_iff, decide_eq_true_iff] at h2
    have := mem_psI.mp h1
    have := h p x hp h2.1 this.2 h2.2
    omega) (by omega)
  omega
theorem few_of {rd : Int → Int} {n k : Nat} (h : Near rd n k) (hb : n * 2 ^ k ≤ 300) : Few rd (n : Int) := fun S hS hK => by
  refine Nat.le_trans (nd_sub hS fun x hx => ks_unv (hK x hx)) (Nat.le_trans ?_ hb)
  unfold unv
  rw [List.length_flatMap]
  have hsum : ∀ l : List Int, (∀ p ∈ l, 0 ≤ p) → (l.map fun p => ((pw (lat rd n p)).map (p :: ·)).length).sum ≤ l.length * 2 ^ k := fun l => by
    induction l with
    | nil => exact fun _ => Nat.zero_le _
    | cons a r ih =>
      intro hl
      rw [List.map_cons, List.sum_cons, List.length_map, pw_len, List.length_cons, Nat.succ_mul]
      have h1 := ih fun p hp => hl p (List.mem_cons_of_mem _ hp)
      have h2 : 2 ^ (lat rd n a).length ≤ 2 ^ k := Nat.pow_le_pow_right (by decide) (lat_len h (hl a List.mem_cons_self))
      omega
  have := hsum (psI n) fun p hp => (mem_psI.mp hp).1
  have hl : (psI n).length = n := by unfold psI; rw [List.length_map, List.length_range]
  rw [hl] at this
  exact this
theorem ks_len {rd : Int → Int} {n k : Nat} (h : Near rd n k) {g : List Int} (hg : KS rd (n : Int) g) : g.length ≤ k + 1 := by
  cases g with
  | nil => exact Nat.zero_le _
  | cons p t =>
    obtain ⟨h1, h2⟩ := List.pairwise_cons.mp hg.asc
    have hp := hg.mem p List.mem_cons_self
    have := asc_short (l := t) (lo := p + 1) (hi := p + 1 + (k : Int)) h2 (fun x hx => by
      have hx' := hg.mem x (List.mem_cons_of_mem _ hx)
      have := h p x hp.1 (h1 x hx) hx'.2 (hg.one p List.mem_cons_self x (List.mem_cons_of_mem _ hx))
      have := h1 x hx
      omega) (by omega)
    rw [List.length_cons]
    omega
theorem sml_of {A : Ar} {rd : Int → Int} {k m : Nat} (hG : ArG A) (h : Near rd A.length k) (hm : ∀ os ∈ A, ∀ o ∈ os, o.length ≤ m) (hb : (k + 1) * m < 64) : Sml A rd := fun g hg i hi => by
  have hl := ks_len h hg
  have : ∀ l : List Int, (∀ p ∈ l, p ∈ g) → (l.flatMap fun p => optOf A p i).length ≤ l.length * m := fun l => by
    induction l with
    | nil => exact fun _ => Nat.zero_le _
    | cons a r ih =>
      intro hlg
      have ha := hlg a List.mem_cons_self
      obtain ⟨os, o, _, _, e, _, _, h1, h2⟩ := optOf_g hG (hg.mem a ha).1 (hg.mem a ha).2 (Nat.lt_of_lt_of_le hi (wid_le a ha))
      have h3 := hm os h2 o h1
      have h4 := ih fun p hp => hlg p (List.mem_cons_of_mem _ hp)
      rw [List.flatMap_cons, List.length_append, List.length_cons, Nat.succ_mul, e]
      omega
  have h1 := this g fun p hp => hp
  have h2 : g.length * m ≤ (k + 1) * m := Nat.mul_le_mul_right m hl
  unfold aft
  omega
theorem near_small (rd : Int → Int) {n : Nat} (h : n ≤ 6) : Near rd n 5 := fun p q p0 hpq hq _ => by omega
theorem opt_short {A : Ar} (hG : ArG A) (h : A.length ≤ 6) : ∀ os ∈ A, ∀ o ∈ os, o.length ≤ 7 := fun os hos o ho => by
  have hO := (hG.2 os hos).2 o ho
  have := asc_short (l := o) (lo := -1) (hi := (A.length : Int)) hO.asc (fun x hx => hO.mem x hx) (by omega)
  omega
/-! ### the known arena is right -/
theorem optK_ne {A : Ar} {rd : Int → Int} {S : List (List Int)} {Kk : List Int} {i : Nat} (hG : ArG A) (hK : KS rd (A.length : Int) Kk) (hi : i < wid A Kk) : optK A rd S Kk i ≠ [] := by
  obtain ⟨p, hp⟩ := List.exists_mem_of_ne_nil _ hK.ne
  obtain ⟨os, o, _, _, e, _, hO, _⟩ := optOf_g hG (hK.mem p hp).1 (hK.mem p hp).2 (Nat.lt_of_lt_of_le hi (wid_le p hp))
  obtain ⟨s, hs⟩ := List.exists_mem_of_ne_nil _ hO.ne
  have hsa : s ∈ aft A Kk i := List.mem_flatMap.mpr ⟨p, hp, by rw [e]; exact hs⟩
  intro h
  by_cases h1 : s = -1
  · subst h1
    have := (mem_optK (A := A) (rd := rd) (S := S) (Kk := Kk) (i := i)).mpr (.inl ⟨rfl, hsa⟩)
    rw [h] at this
    cases this
  · have hf : s ∈ (succs A Kk i).filter fun p => !decide (p = -1) := List.mem_filter.mpr ⟨mem_srt.mpr hsa, by simp [h1]⟩
    have := (mem_optK (A := A) (rd := rd) (S := S) (Kk := Kk) (i := i)).mpr (.inr (List.mem_map.mpr ⟨_, prt_of hf, rfl⟩))
    rw [h] at this
    cases this
theorem fol_few {A : Ar} {rd : Int → Int} {Kk : List Int} {i : Nat} (hG : ArG A) (hK : KS rd (A.length : Int) Kk) (hi : i < wid A Kk) : (fol A rd Kk i).length ≤ A.length := by
  have h1 : (fol A rd Kk i).length ≤ _ := prt_len
  have h2 := asc_short (l := (succs A Kk i).filter fun p => !decide (p = -1)) (lo := 0) (hi := (A.length : Int)) (asc_filter _ asc_srt) (fun x hx => by
    obtain ⟨h1, h2⟩ := List.mem_filter.mp hx
    have := succs_mem hG hK.mem (fun p hp => Nat.lt_of_lt_of_le hi (wid_le p hp)) x h1
    have h3 : x ≠ -1 := by simpa using h2
    omega) (by omega)
  omega
theorem optK_good {A : Ar} {rd : Int → Int} {S : List (List Int)} {Kk : List Int} {i : Nat} (hG : ArG A) (hn : A.length ≤ 46) (hK : KS rd (A.length : Int) Kk) (hi : i < wid A Kk) (hin : ∀ g ∈ fol A rd Kk i, g ∈ S) : OptG (S.length : Int) (optK A rd S Kk i) := by
  refine ⟨optK_ne hG hK hi, ?_, fun s hs => ?_, asc_optK⟩
  · have h1 := fol_few hG hK hi
    have h2 := srt_len (l := (fol A rd Kk i).map fun g => ((nr S g : Nat) : Int))
    rw [List.length_map] at h2
    have h3 : ((if (-1 : Int) ∈ succs A Kk i then [-1] else []) : List Int).length ≤ 1 := by split <;> simp
    unfold optK
    rw [List.length_append]
    omega
  · rcases mem_optK.mp hs with ⟨e, _⟩ | h
    · omega
    · obtain ⟨g, hg, e⟩ := List.mem_map.mp h
      have := nr_lt (hin g hg)
      have e : ((nr S g : Nat) : Int) = s := e
      omega
theorem kn_good {A : Ar} {rd : Int → Int} {st : List Int} {F : Ar} {S : List (List Int)} (hG : ArG A) (hn : A.length ≤ 46) (hs : Asc st) (hm : ∀ p ∈ st, 0 ≤ p ∧ p < (A.length : Int)) (hf : Few rd (A.length : Int)) (h : IsKn A rd st F S) : ArG F := by
  obtain ⟨I, hl⟩ := h.inv hG hs hm
  have h300 := hf S I.nd I.ks
  refine ⟨by omega, fun os hos => ?_⟩
  obtain ⟨k, hk⟩ := List.getElem?_of_mem hos
  have hkl := (List.getElem?_eq_some_iff.mp hk).1
  have hKk : S[k]? = some S[k] := List.getElem?_eq_getElem (by omega)
  obtain ⟨r1, r2⟩ := I.row k _ hkl hKk
  have hKS := I.ks _ (List.mem_of_getElem? hKk)
  rw [hk] at r1
  have r1 := Option.some.inj r1
  rw [r1]
  refine ⟨?_, fun o ho => ?_⟩
  · rw [List.length_map, List.length_range]
    obtain ⟨p, hp, e⟩ := wid_mem (A := A) hKS.ne
    obtain ⟨p0, p1⟩ := hKS.mem p hp
    have hk2 : p.toNat < A.length := by omega
    have h1 := (hG.2 _ (List.getElem_mem hk2)).1
    have e2 := lenOf_at (A := A) (p := p) (List.getElem?_eq_getElem hk2)
    omega
  · obtain ⟨i, hi, e⟩ := List.mem_map.mp ho
    have hi := List.mem_range.mp hi
    rw [← e, hl]
    exact optK_good hG hn hKS hi (r2 i hi)
theorem alk_ints {H : Hp} {u v : V} {g : List Int} (hl : g.length ≤ 1000000) (hu : OptIn H g u) (hv : OptIn H g v) : Alk 2 H u v := by
  obtain ⟨a, rfl, ha⟩ := hu
  obtain ⟨b, rfl, hb⟩ := hv
  exact Alk.ints ha hb hl
theorem alk_pos {H : Hp} {u v : V} {os : Pos'} (hl : os.length ≤ 1000000) (hO : ∀ o ∈ os, o.length ≤ 1000000) (hu : PosIn H os u) (hv : PosIn H os v) : Alk 3 H u v := by
  obtain ⟨a, xs, rfl, ha, hxs⟩ := hu
  obtain ⟨b, ys, rfl, hb, hys⟩ := hv
  refine .inr (.inr (.inr ⟨a, b, xs, ys, rfl, rfl, ha, hb, by rw [hxs.1, hys.1], by rw [hys.1]; exact hl, fun k x y hx hy => ?_⟩))
  have hk := (List.getElem?_eq_some_iff.mp hx).1
  rw [hxs.1] at hk
  have ho := List.getElem?_eq_getElem hk
  exact alk_ints (hO _ (List.mem_of_getElem? ho)) (hxs.2 k _ x ho hx) (hys.2 k _ y ho hy)
theorem alk_ar {H : Hp} {u v : V} {A : Ar} (hl : A.length ≤ 1000000) (hP : ∀ os ∈ A, os.length ≤ 1000000 ∧ ∀ o ∈ os, o.length ≤ 1000000) (hu : ArIn H A u) (hv : ArIn H A v) : Alk 4 H u v := by
  obtain ⟨a, xs, rfl, ha, hxs⟩ := hu
  obtain ⟨b, ys, rfl, hb, hys⟩ := hv
  refine .inr (.inr (.inr ⟨a, b, xs, ys, rfl, rfl, ha, hb, by rw [hxs.1, hys.1], by rw [hys.1]; exact hl, fun k x y hx hy => ?_⟩))
  have hk := (List.getElem?_eq_some_iff.mp hx).1
  rw [hxs.1] at hk
  have ho := List.getElem?_eq_getElem hk
  have hp := hP _ (List.mem_of_getElem? ho)
  exact alk_pos hp.1 hp.2 (hxs.2 k _ x ho hx) (hys.2 k _ y ho hy)
theorem Alk.up : ∀ {n : Nat} {H : Hp} {u v : V}, Alk n H u v → Alk (n + 1) H u v
  | 0, _, _, _, h => h.elim
  | n + 1, H, u, v, h => by
    rcases h with h | h | h | ⟨a, b, xs, ys, e1, e2, h1, h2, h3, h4, h5⟩
    · exact .inl h
    · exact .inr (.inl h)
    · exact .inr (.inr (.inl h))
    · exact .inr (.inr (.inr ⟨a, b, xs, ys, e1, e2, h1, h2, h3, h4, fun k x y hx hy => (h5 k x y hx hy).up⟩))
theorem kn_alk {H : Hp} {u v : V} {F : Ar} {S : List (List Int)} (hF : ArG F) (hS : S.length ≤ 300) (hK : ∀ g ∈ S, g.length ≤ 1000000) (hu : KnIn H F S u) (hv : KnIn H F S v) : Alk 5 H u v := by
  obtain ⟨a, x1, y1, rfl, ha, hx1, hy1⟩ := hu
  obtain ⟨b, x2, y2, rfl, hb, hx2, hy2⟩ := hv
  refine .inr (.inr (.inr ⟨a, b, _, _, rfl, rfl, ha, hb, rfl, by show 2 ≤ 1000000; decide, fun k x y hx hy => ?_⟩))
  match k, hx, hy with
  | 0, hx, hy =>
    cases hx
    cases hy
    exact alk_ar (Nat.le_trans hF.1 (by decide)) (fun os hos => ⟨Nat.le_trans (hF.2 os hos).1 (by decide), fun o ho => Nat.le_trans ((hF.2 os hos).2 o ho).len (by decide)⟩) hx1 hx2
  | 1, hx, hy =>
    cases hx
    cases hy
    exact (alk_pos (by omega) hK hy1 hy2).up
  | k + 2, hx, hy => cases hx
end NL

set_option maxHeartbeats 4000000
namespace NL
open PySem PySem.Spec PyProof.Rows L2
/-! ### ascending successors -/
def ascB : Int → Int → List Int → Bool
  | _, _, [] => true
  | low, n, x :: r => decide (low ≤ x) && (decide (x < n) && ascB (x + 1) n r)
theorem asc_good : ∀ {low n : Int} {o : List Int}, (∀ s ∈ o, low ≤ s ∧ s < n) → o.Pairwise (· < ·) → ascB low n o = true
  | _, _, [], _, _ => rfl
  | low, n, x :: r, h, p => by
    obtain ⟨h1, h2⟩ := List.pairwise_cons.mp p
    obtain ⟨h3, h4⟩ := h x List.mem_cons_self
    rw [ascB, decide_eq_true h3, decide_eq_true h4, asc_good (fun s hs => ⟨h1 s hs, (h s (List.mem_cons_of_mem _ hs)).2⟩) h2]
    rfl
section
variable {P : Program} {w : World} {K : PySem.W.Frag} {mg : Str → Option Value} {base : Heap}
/-! ### is_ascending -/
def spAsc : Sp := fun vs H Q _ => ∃ (b : Addr) (o : List Int) (low n : Int), vs = [.ref b, .int low, .int n] ∧ H b = some (.tup (o.map V.int)) ∧ Q (.bl (ascB low n o)) H
theorem asc_drop {low n : Int} {o : List Int} {j : Nat} {x : Int} (h : o[j]? = some x) : ascB low n (o.drop j) = (decide (low ≤ x) && (decide (x < n) && ascB (x + 1) n (o.drop (j + 1)))) := by
  obtain ⟨h1, e1⟩ := List.getElem?_eq_some_iff.mp h
  rw [List.drop_eq_getElem_cons h1, ascB, e1]
theorem ok_is_ascending (T : Txt K mg) : FnOk P w K mg base CX0 1 T.ais_ascending T.dis_ascending Pis_ascending spAsc := by
  refine T.Fis_ascending.ok scis_ascending (fun vs H Q E h => ?_) (fun cdv A outer s H vs Q E hr h => ?_)
  · obtain ⟨b, o, low, n, rfl, _⟩ := h
    rfl
  obtain ⟨b, o, low, n, rfl, hb, q⟩ := h
  refine ⟨_, (pss_cons (ps_set (i := 3) scis_ascending.nd rfl (Or.inl rfl) (pv 1))
    (pss_cons (ps_for  PassesOwn.never rfl (pi_tup (pv 0)) (pg_name (i := 4) scis_ascending.nd rfl (Or.inl rfl))
    (pss_cons (ps_if (pt_not (pt_chain op_le op_lt (pv 3) (pv 4) (pv 2)))
    (pss_one (ps_ret pe_bl))
    pss_nil)
    (pss_one (ps_set (i := 3) scis_ascending.nd rfl (Or.inl rfl) (pe_op op_add (pv 4) pe_int)))))
    (pss_one (ps_ret pe_bl)))), ?_⟩
  refine ⟨_, rfl, ?_⟩
  refine ⟨_, rfl, b, rfl, ⟨_, sqt hb⟩, for_tup (K := K) (a := b) (xs := o.map V.int) (fun (j : Nat) (σ : L2.St) (H' : Hp) => ∃ (l : Int) (y4 : Option V), σ = [some (.ref b), some (.int low), some (.int n), some (.int l), y4] ∧ H' = H ∧ ascB low n o = ascB l n (o.drop j)) ?_ ?_ ?_ ?_⟩
  · exact ⟨low, none, rfl, rfl, by rw [List.drop_zero]⟩
  · rintro j σ H' _ ⟨l, y4, rfl, rfl, _⟩
    exact sqt hb
  · rintro j x σ H' hx ⟨l, y4, rfl, rfl, he⟩
    rw [List.getElem?_map] at hx
    obtain ⟨i, hi, rfl⟩ := Option.map_eq_some_iff.mp hx
    rw [asc_drop hi] at he
    refine ⟨_, rfl, _, rfl, _, _, rfl, rfl, _, rfl, ?_⟩
    by_cases h1 : l ≤ i
    case neg =>
      refine ifF (decide_eq_false h1) ⟨_, rfl, iteT ?_⟩
      rw [decide_eq_false h1, Bool.false_and] at he
      rw [he] at q
      exact q
    refine ifT (decide_eq_true h1) ⟨_, rfl, _, _, rfl, rfl, _, rfl, ?_⟩
    rw [decide_eq_true h1, Bool.true_and] at he
    by_cases h2 : i < n
    case neg =>
      refine ifT (by rw [decide_eq_false h2] <;> rfl) ?_
      rw [decide_eq_false h2, Bool.false_and] at he
      rw [he] at q
      exact q
    refine ifF (by rw [decide_eq_true h2] <;> rfl) ?_
    rw [decide_eq_true h2, Bool.true_and] at he
    exact ⟨_, rfl, _, _, rfl, rfl, i + 1, _, rfl, rfl, he⟩
  · rintro σ H' ⟨l, y4, rfl, rfl, he⟩
    rw [List.length_map, List.drop_length] at he
    rw [he] at q
    exact q
/-! ### check_arena, nothing raised -/
theorem dp_ints {K : PySem.W.Frag} {H : Hp} : ∀ l : List Int, DpAll K H (l.map V.int) (l.map PyData.int)
  | [] => .nil
  | a :: r => .cons (.int a) (dp_ints r)
theorem lay_ints : ∀ l : List Int, PyData.canLayAll0 (l.map PyData.int) = true ∧ PyData.depthAll (l.map PyData.int) = 0
  | [] => ⟨rfl, rfl⟩
  | a :: r => by
    obtain ⟨h1, h2⟩ := lay_ints r
    refine ⟨?_, ?_⟩
    · show (true && PyData.canLayAll0 (r.map PyData.int)) = true
      rw [h1]
      rfl
    · show max 0 (PyData.depthAll (r.map PyData.int)) = 0
      rw [h2]
      rfl
theorem shaped_tup (l : List Int) : SeqAt.shaped (.tuple (l.map PyData.int)) = true := by
  obtain ⟨h1, h2⟩ := lay_ints l
  show (PyData.canLayAll0 (l.map PyData.int) && decide (PyData.depthAll (l.map PyData.int) + 1 ≤ 64)) = true
  rw [h1, h2]
  rfl
def spCheckA : Sp := fun vs H Q _ => ∃ (v : V) (A : Ar), vs = [v] ∧ ArIn H A v ∧ ArG A ∧ ∀ H', Same H H' → Q .non H'
theorem ok_check_arena (T : Txt K mg) : FnOk P w K mg base CX0 2 T.acheck_arena T.dcheck_arena Pcheck_arena spCheckA := by
  have Gis_ascending := ok_is_ascending (P := P) (w := w) (base := base) T
  refine T.Fcheck_arena.ok sccheck_arena (fun vs H Q E h => ?_) (fun cdv A outer s H vs Q E hr h => ?_)
  · obtain ⟨v, A, rfl, _⟩ := h
    rfl
  obtain ⟨v, A0, rfl, ⟨b0, xs, rfl, e0, hxs⟩, hG, q⟩ := h
  refine ⟨_, (pss_one (ps_for  PassesOwn.never rfl (pi_tup (pv 0)) (pg_name (i := 1) sccheck_arena.nd rfl (Or.inl rfl))
    (pss_one (ps_for  PassesOwn.never rfl (pi_tup (pv 1)) (pg_name (i := 2) sccheck_arena.nd rfl (Or.inl rfl))
    (pss_cons (ps_if (pt_cmpR (op_eqD hr.units) (pv 2) (pe_tup pa_nil) (nomark _))
    (pss_one ps_never)
    pss_nil)
    (pss_one (ps_if (pt_not (pt_val (pe_call Gis_ascending (hr.mono (by omega)) (by rfl) T.mis_ascending T.Fis_ascending.kp T.bis_ascending .nil pass0 (pa_cons (pv 2) (pa_cons (pe_un un_neg pe_int) (pa_cons (pe_callB call_len_seq (by rfl) T.z_len PySem.boot_len (pa_cons (pv 0) pa_nil)) pa_nil))))))
    (pss_one ps_never)
    pss_nil))))))), ?_⟩
  refine ⟨_, rfl, b0, rfl, ⟨_, sqt e0⟩, for_tup (K := K) (a := b0) (xs := xs) (fun (j : Nat) (σ : L2.St) (H' : Hp) => ∃ (y1 y2 : Option V), σ = [some (.ref b0), y1, y2] ∧ Same H H') ?_ ?_ ?_ ?_⟩
  · exact ⟨none, none, rfl, Same.refl H⟩
  · rintro j σ H' _ ⟨y1, y2, rfl, s1⟩
    exact sqt (s1 _ _ e0)
  · rintro j x σ H1 hx ⟨y1, y2, rfl, s1⟩
    have hj : j < A0.length := by
      rw [← hxs.1]
      exact (List.getElem?_eq_some_iff.mp hx).1
    have hos := List.getElem?_eq_getElem hj
    generalize A0[j] = os at hos
    obtain ⟨b1, zs, rfl, e1, hzs⟩ := hxs.2 j os x hos hx
    have hgo := (hG.2 os (List.mem_of_getElem? hos)).2
    refine ⟨_, rfl, b1, rfl, ⟨_, sqt (s1 _ _ e1)⟩, for_tup (K := K) (a := b1) (xs := zs) (fun (i : Nat) (σ : L2.St) (H' : Hp) => ∃ (y2 : Option V), σ = [some (.ref b0), some (.ref b1), y2] ∧ Same H H') ?_ ?_ ?_ ?_⟩
    · exact ⟨y2, rfl, s1⟩
    · rintro i σ H' _ ⟨y2, rfl, s2⟩
      exact sqt (s2 _ _ e1)
    · rintro i x σ H2 hx2 ⟨y2, rfl, s2⟩
      have hi : i < os.length := by
        rw [← hzs.1]
        exact (List.getElem?_eq_some_iff.mp hx2).1
      have ho := List.getElem?_eq_getElem hi
      generalize os[i] = o at ho
      obtain ⟨b2, rfl, e2⟩ := hzs.2 i o x ho hx2
      have hgo2 := hgo o (List.mem_of_getElem? ho)
      have e2' := s2 _ _ e2
      refine ⟨_, rfl, Nat.zero_le _, fun te hte => ?_⟩
      have s3 := same_new hte (.tup [])
      refine ⟨.tuple (o.map PyData.int), .tuple [], .tup (sqt (s3 _ _ e2')) (dp_ints o), .tup (sqt upd_same) .nil, shaped_tup o, rfl, _, rfl, ?_⟩
      have s23 := s2.trans s3
      generalize upd H2 te (.tup []) = H3 at s3 s23 ⊢
      cases o with
      | nil => exact absurd rfl hgo2.ne
      | cons a r =>
        refine ifF rfl ?_
        refine ⟨_, rfl, _, rfl, _, rfl, b0, _, rfl, .inr (sqt (s23 _ _ e0)), b2, a :: r, -1, _, rfl, s3 _ _ e2', _, rfl, ?_⟩
        have hb : ascB (-1) ((xs.length : Nat) : Int) (a :: r) = true := asc_good (fun s hs => by rw [hxs.1]; exact hgo2.mem s hs) hgo2.asc
        rw [hb]
        exact iteF ⟨_, rfl, s23⟩
    · rintro σ H2 ⟨y2, rfl, s2⟩
      exact ⟨_, _, rfl, s2⟩
  · rintro σ H1 ⟨y1, y2, rfl, s1⟩
    exact q _ s1
end
end NL

set_option maxHeartbeats 4000000
namespace NL
open PySem PySem.Spec PyProof.Rows L2
def spLaw (K : PySem.W.Frag) : Sp := fun vs H Q _ => ∃ (a : Addr) (ns : List Int), vs = [.ref a] ∧ SqL K H a (ns.map V.int) ∧ ns.length ≤ 63 ∧ ∀ H', Q (.bl true) H'
/-- a row of readings that leads to few sets -/
structure RdG (A : Ar) (R : List Int) : Prop where
  len : R.length = A.length
  few : Few (rdF R) (A.length : Int)
  sml : Sml A (rdF R)
theorem rdF_map {n : Nat} {f : Int → Int} {p : Int} (h0 : 0 ≤ p) (h1 : p < (n : Int)) : rdF ((List.range n).map fun k : Nat => f (0 + (k : Int))) p = f p := by
  obtain ⟨k, rfl, hk⟩ : ∃ k : Nat, p = (k : Int) ∧ k < n := ⟨p.toNat, by omega, by omega⟩
  unfold rdF
  rw [Int.toNat_natCast, List.getD_eq_getElem?_getD, List.getElem?_map, List.getElem?_range hk]
  show f (0 + (k : Int)) = _
  rw [Int.zero_add]
theorem rdg_small {A : Ar} (hG : ArG A) {R : List Int} (hl : R.length = A.length) (h6 : A.length ≤ 6) : RdG A R :=
  ⟨hl, few_of (near_small _ h6) (by have := Nat.mul_le_mul_right (2 ^ 5) h6; omega), sml_of hG (near_small _ h6) (opt_short hG h6) (by decide)⟩
theorem rdg_two {A : Ar} (hG : ArG A) (hn : A.length ≤ 46) (h2 : ∀ os ∈ A, ∀ o ∈ os, o.length ≤ 2) : RdG A ((List.range A.length).map fun k : Nat => ((0 + (k : Int)) + 1) / 2) := by
  have near : Near (rdF ((List.range A.length).map fun k : Nat => ((0 + (k : Int)) + 1) / 2)) A.length 1 := fun p q p0 hpq hq e => by
    rw [rdF_map (f := fun x => (x + 1) / 2) p0 (by omega), rdF_map (f := fun x => (x + 1) / 2) (by omega) hq] at e
    have e : (p + 1) / 2 = (q + 1) / 2 := e
    omega
  exact ⟨by rw [List.length_map, List.length_range], few_of near (by omega), sml_of hG near h2 (by decide)⟩
theorem rdg_three {A : Ar} (hG : ArG A) (hn : A.length ≤ 46) (h2 : ∀ os ∈ A, ∀ o ∈ os, o.length ≤ 2) : RdG A ((List.range A.length).map fun k : Nat => (60 - (0 + (k : Int))) / 3) := by
  have near : Near (rdF ((List.range A.length).map fun k : Nat => (60 - (0 + (k : Int))) / 3)) A.length 2 := fun p q p0 hpq hq e => by
    rw [rdF_map (f := fun x => (60 - x) / 3) p0 (by omega), rdF_map (f := fun x => (60 - x) / 3) (by omega) hq] at e
    have e : (60 - p) / 3 = (60 - q) / 3 := e
    omega
  exact ⟨by rw [List.length_map, List.length_range], few_of near (by omega), sml_of hG near h2 (by decide)⟩
section
variable {P : Program} {w : World} {K : PySem.W.Frag} {mg : Str → Option Value} {base : Heap}
theorem ok_law (T : Txt K mg) : FnOk P w K mg base CX0 7 T.alaw T.dlaw Plaw (spLaw K) := by
  have G_law_draws := ok_law_draws (P := P) (w := w) (base := base) T
  have G_law_arena := ok_law_arena (P := P) (w := w) (base := base) T
  have G_law_some := ok_law_some (P := P) (w := w) (base := base) T
  have G_law_readings := ok_law_readings (P := P) (w := w) (base := base) T
  have G_law_known := ok_law_known (P := P) (w := w) (base := base) T
  have G_law_same := ok_law_same (P := P) (w := w) (base := base) T 5
  have Gknown_arena := ok_known_arena (P := P) (w := w) (base := base) T
  have Gcheck_arena := ok_check_arena (P := P) (w := w) (base := base) T
  refine T.Flaw.ok sclaw (fun vs H Q E h => ?_) (fun cdv A outer s H vs Q E hr h => ?_)
  · obtain ⟨a, ns, rfl, _⟩ := h
    rfl
  obtain ⟨a, ns, rfl, hSq, hl, q⟩ := h
  refine ⟨_, (pss_cons (ps_set (i := 1) sclaw.nd rfl (Or.inl rfl) (pe_call G_law_draws (hr.mono (by omega)) (by rfl) T.m_law_draws T.F_law_draws.kp T.b_law_draws .nil pass0 (pa_cons (pv 0) (pa_cons pe_int pa_nil))))
    (pss_cons (ps_set (i := 2) sclaw.nd rfl (Or.inl rfl) (pe_call G_law_arena (hr.mono (by omega)) (by rfl) T.m_law_arena T.F_law_arena.kp T.b_law_arena .nil pass0 (pa_cons (pv 1) (pa_cons pe_int pa_nil))))
    (pss_cons (ps_set (i := 3) sclaw.nd rfl (Or.inl rfl) (pe_call G_law_some (hr.mono (by omega)) (by rfl) T.m_law_some T.F_law_some.kp T.b_law_some .nil pass0 (pa_cons (pv 1) (pa_cons (pv 2) (pa_cons pe_int pa_nil)))))
    (pss_cons (ps_set (i := 4) sclaw.nd rfl (Or.inl rfl) (pe_lst (pa_cons (pe_call G_law_readings (hr.mono (by omega)) (by rfl) T.m_law_readings T.F_law_readings.kp T.b_law_readings .nil pass0 (pa_cons (pv 0) (pa_cons (pv 1) (pa_cons (pv 2) pa_nil)))) (pa_cons (pe_call G_law_readings (hr.mono (by omega)) (by rfl) T.m_law_readings T.F_law_readings.kp T.b_law_readings .nil pass0 (pa_cons (pv 0) (pa_cons (pv 1) (pa_cons (pv 2) pa_nil)))) pa_nil))))
    (C8.pss_cut (ps_if (pt_cmpR op_gt (pe_callB call_len_seq (by rfl) T.z_len PySem.boot_len (pa_cons (pv 2) pa_nil)) pe_int (nomark _))
    (pss_one (ps_set (i := 4) sclaw.nd rfl (Or.inl rfl) (pe_lst (pa_cons (pe_callTy call_tuple_of (by rfl) T.z_tuple (by decide +kernel) (pa_cons (pe_lc (own := [("k", 5)]) (g := (gName 5)) (tt := tYes) rfl sclaw.nd (pi_range1 (by rfl) T.z_range (pa_cons (pe_callB call_len_seq (by rfl) T.z_len PySem.boot_len (pa_cons (pv 2) pa_nil)) pa_nil)) (blkOk_by (N := Nlaw) (sc := defScope slaw) (by decide +kernel)) (fun _ _ _ _ _ => (pg_name (i := 5) sclaw.nd rfl (Or.inl rfl))) (fun _ _ _ _ _ => pts_nil) (fun _ _ _ _ _ => (pe_op op_fdiv (pe_op op_add (pv 5) pe_int) pe_int))) pa_nil)) (pa_cons (pe_callTy call_tuple_of (by rfl) T.z_tuple (by decide +kernel) (pa_cons (pe_lc (own := [("k", 5)]) (g := (gName 5)) (tt := tYes) rfl sclaw.nd (pi_range1 (by rfl) T.z_range (pa_cons (pe_callB call_len_seq (by rfl) T.z_len PySem.boot_len (pa_cons (pv 2) pa_nil)) pa_nil)) (blkOk_by (N := Nlaw) (sc := defScope slaw) (by decide +kernel)) (fun _ _ _ _ _ => (pg_name (i := 5) sclaw.nd rfl (Or.inl rfl))) (fun _ _ _ _ _ => pts_nil) (fun _ _ _ _ _ => (pe_op op_fdiv (pe_op op_sub pe_int (pv 5)) pe_int))) pa_nil)) pa_nil)))))
    pss_nil)
    (pss_cons (ps_for  PassesOwn.never rfl (pi_list (pe_slice sl_list (pe_lst (pa_cons (pe_ix ix_list (pv 4) pe_int (fun _ _ => rfl)) (pa_cons (pe_ix ix_list (pv 4) pe_int (fun _ _ => rfl)) (pa_cons (pe_ix ix_list (pv 4) pe_int (fun _ _ => rfl)) pa_nil)))) po_none (po_some (pe_op op_add pe_int (pe_callTy call_int1 (by rfl) T.z_int (by decide +kernel) (pa_cons (pe_cmpR op_lt (pe_callB call_len_seq (by rfl) T.z_len PySem.boot_len (pa_cons (pv 2) pa_nil)) pe_int (nomark _)) pa_nil)))))) (pg_name (i := 6) sclaw.nd rfl (Or.inl rfl))
    (pss_cons (ps_set (i := 7) sclaw.nd rfl (Or.inl rfl) (pe_call Gknown_arena (hr.mono (by omega)) (by rfl) T.mknown_arena T.Fknown_arena.kp T.bknown_arena .nil pass0 (pa_cons (pv 2) (pa_cons (pv 6) (pa_cons (pv 3) pa_nil)))))
    (pss_one (ps_if (PW.pt (pw_or (pt_not (pt_val (pe_call G_law_same (hr.mono (by omega)) (by rfl) T.m_law_same T.F_law_same.kp T.b_law_same .nil pass0 (pa_cons (pv 7) (pa_cons (pe_call G_law_known (hr.mono (by omega)) (by rfl) T.m_law_known T.F_law_known.kp T.b_law_known .nil pass0 (pa_cons (pv 2) (pa_cons (pv 6) (pa_cons (pv 3) pa_nil)))) pa_nil))))) (pw_or1 (pt_cmpR op_notN (pe_call Gcheck_arena (hr.mono (by omega)) (by rfl) T.mcheck_arena T.Fcheck_arena.kp T.bcheck_arena .nil pass0 (pa_cons (pe_ix ix_tup (pv 7) pe_int (fun _ _ => rfl)) pa_nil)) pe_non (nomark _)))))
    (pss_one (ps_ret pe_bl))
    pss_nil))))
    (pss_one (ps_ret (pe_call G_law_same (hr.mono (by omega)) (by rfl) T.m_law_same T.F_law_same.kp T.b_law_same .nil pass0 (pa_cons (pe_call Gknown_arena (hr.mono (by omega)) (by rfl) T.mknown_arena T.Fknown_arena.kp T.bknown_arena .nil pass0 (pa_cons (pv 2) (pa_cons (pe_ix ix_list (pv 4) pe_int (fun _ _ => rfl)) (pa_cons (pe_tup pa_nil) pa_nil)))) (pa_cons (pe_tup (pa_cons (pe_tup pa_nil) (pa_cons (pe_tup pa_nil) pa_nil))) pa_nil))))))))))), ?_⟩
  refine ⟨_, rfl, a, ns, 156, rfl, hSq, hl, by decide, by decide, fun d H1 s1 hd D1 => ?_⟩
  have hS1 : ScrL K d H1 a (ns.map V.int) := (ScrL.of hSq hd).sm s1
  refine ⟨_, rfl, d, 6, rfl, D1, by decide, by decide, fun v A0 H2 g2 hA hG h46 hkind => ?_⟩
  obtain ⟨b0, xs, rfl, e0, hxs⟩ := id hA
  have hxl := hxs.1
  refine ⟨_, rfl, _, rfl, d, _, A0, 4, rfl, g2.dr, hA, by omega, fun sp st H3 g3 ksp hst => ?_⟩
  have hA3 := hA.tp (g3.tp g2.dr)
  have g13 := g2.trans g3
  refine ⟨_, rfl, _, rfl, _, rfl, a, d, ns, _, A0, rfl, hS1.go g13, hl, g3.dr, hA3, by omega, fun r0 R0 H4 g4 k4 hR0 => ?_⟩
  have hA4 := hA3.tp (g4.tp g3.dr)
  refine ⟨_, rfl, _, rfl, _, rfl, a, d, ns, _, A0, rfl, (hS1.go g13).go g4, hl, g4.dr, hA4, by omega, fun r1 R1 H5 g5 k5 hR1 => ?_⟩
  have hA5 := hA4.tp (g5.tp g4.dr)
  have k45 := g5.tp g4.dr _ _ k4
  have ksp5 := g5.tp g4.dr _ _ (g4.tp g3.dr _ _ ksp)
  have e05 := g5.tp g4.dr _ _ (g4.tp g3.dr _ _ (g3.tp g2.dr _ _ e0))
  refine ⟨Nat.le_of_ble_eq_true rfl, fun rl hrl => ?_⟩
  obtain ⟨H6, e6, s6, k6⟩ := newH hrl (.lst [V.ref r0, V.ref r1])
  rw [e6]
  have hA6 := hA5.tp (Tp.same s6)
  refine ⟨fun σ H' => ∃ (rl ra rb : Addr) (Ra Rb : List Int) (y5 y6 y7 : Option V), σ = [some (.ref a), some (.ref d), some (.ref b0), some (.ref sp), some (.ref rl), y5, y6, y7] ∧ H' rl = some (.lst [V.ref ra, V.ref rb]) ∧ H' ra = some (.tup (Ra.map V.int)) ∧ H' rb = some (.tup (Rb.map V.int)) ∧ RdG A0 Ra ∧ RdG A0 Rb ∧ Same H5 H', ?_, ?_⟩
  · refine ⟨_, rfl, b0, _, rfl, .inr (sqt (s6 _ _ e05)), _, _, rfl, rfl, _, rfl, ?_⟩
    refine ite2 (fun z => ?_) (fun z => ?_)
    · have h7 : (6 : Int) < ((xs.length : Nat) : Int) := of_decide_eq_true z
      have h2 : ∀ os ∈ A0, ∀ o ∈ os, o.length ≤ 2 := by
        rcases hkind with h | h
        · omega
        · exact h.2
      have hnn : ((xs.length : Nat) : Int).toNat = A0.length := by omega
      refine ⟨_, rfl, b0, _, rfl, .inr (sqt (s6 _ _ e05)), _, rfl, by omega, by omega, fun D hD => ?_⟩
      refine lc_range (lo := 0) (n := ((xs.length : Nat) : Int).toNat) (fun (i : Nat) (H' : Hp) => Same H6 H' ∧ H' D = some (.lst (((List.range i).map fun k : Nat => ((0 + (k : Int)) + 1) / 2).map V.int))) ?_ ?_ ?_
      · exact ⟨same_new hD _, upd_same⟩
      · rintro i H7 hi ⟨s7, k7⟩
        refine ⟨rfl, yes_if ?_⟩
        refine ⟨_, rfl, _, _, rfl, rfl, _, _, rfl, rfl, ⟨(by decide : (0 : Int) < 2), (by decide : (2 : Int) < 1073741824)⟩, _, k7, big' (by rw [List.length_map, List.length_map, List.length_range]; omega), same_put s7 hD, ?_⟩
        rw [upd_same, List.range_succ, List.map_append, List.map_append]
        rfl
      rintro H7 ⟨s7, k7⟩
      rw [hnn] at k7
      refine ⟨D, _, rfl, .inl ⟨sqd k7, fun ra hra => ?_⟩⟩
      obtain ⟨H8, e8, s8, k8⟩ := newH hra (.tup (((List.range A0.length).map fun k : Nat => ((0 + (k : Int)) + 1) / 2).map V.int))
      rw [e8]
      have s68 := s7.trans s8
      refine ⟨_, rfl, b0, _, rfl, .inr (sqt (s68 _ _ (s6 _ _ e05))), _, rfl, by omega, by omega, fun D2 hD2 => ?_⟩
      refine lc_range (lo := 0) (n := ((xs.length : Nat) : Int).toNat) (fun (i : Nat) (H' : Hp) => Same H8 H' ∧ H' D2 = some (.lst (((List.range i).map fun k : Nat => (60 - (0 + (k : Int))) / 3).map V.int))) ?_ ?_ ?_
      · exact ⟨same_new hD2 _, upd_same⟩
      · rintro i H9 hi ⟨s9, k9⟩
        refine ⟨rfl, yes_if ?_⟩
        refine ⟨_, rfl, _, _, rfl, rfl, _, _, rfl, rfl, ⟨(by decide : (0 : Int) < 3), (by decide : (3 : Int) < 1073741824)⟩, _, k9, big' (by rw [List.length_map, List.length_map, List.length_range]; omega), same_put s9 hD2, ?_⟩
        rw [upd_same, List.range_succ, List.map_append, List.map_append]
        rfl
      rintro H9 ⟨s9, k9⟩
      rw [hnn] at k9
      refine ⟨D2, _, rfl, .inl ⟨sqd k9, fun rb hrb => ?_⟩⟩
      obtain ⟨HA, eA, sA, kA⟩ := newH hrb (.tup (((List.range A0.length).map fun k : Nat => (60 - (0 + (k : Int))) / 3).map V.int))
      rw [eA]
      refine ⟨Nat.le_of_ble_eq_true rfl, fun rl2 hrl2 => ?_⟩
      obtain ⟨HB, eB, sB, kB⟩ := newH hrl2 (.lst [V.ref ra, V.ref rb])
      rw [eB]
      exact ⟨rl2, ra, rb, _, _, _, _, _, rfl, kB, sB _ _ (sA _ _ (s9 _ _ k8)), sB _ _ kA, rdg_two hG h46 h2, rdg_three hG h46 h2, s6.trans (s68.trans ((s9.trans sA).trans sB))⟩
    · have h6 : A0.length ≤ 6 := by
        have : ¬ (6 : Int) < ((xs.length : Nat) : Int) := fun h => z (decide_eq_true h)
        omega
      exact ⟨rl, r0, r1, R0, R1, _, _, _, rfl, k6, s6 _ _ k45, s6 _ _ k5, rdg_small hG hR0 h6, rdg_small hG hR1 h6, s6⟩
  rintro σ H7 ⟨rl7, ra, rb, Ra, Rb, y5, y6, y7, rfl, krl, kra, krb, hRa, hRb, s57⟩
  have e07 := s57 _ _ e05
  have hA7 := hA5.tp (Tp.same s57)
  have ksp7 := s57 _ _ ksp5
  -- the two rows, the first one again
  refine ⟨_, rfl, rl7, _, _, _, rfl, rfl, sqd krl, atI0, _, rfl, rl7, _, _, _, rfl, rfl, sqd krl, atI1, _, rfl, rl7, _, _, _, rfl, rfl, sqd krl, atI0, Nat.le_of_ble_eq_true rfl, fun cl hcl => ?_⟩
  obtain ⟨H8, e8, s8, k8⟩ := newH hcl (.lst [V.ref ra, V.ref rb, V.ref ra])
  rw [e8]
  refine ⟨_, rfl, b0, _, rfl, .inr (sqt (s8 _ _ e07)), _, _, rfl, rfl, .inr ⟨_, rfl, _, _, rfl, rfl, _, rfl, cl, _, rfl, sqd k8, fun c2 hc2 => ?_⟩⟩
  generalize hys : cutV [V.ref ra, V.ref rb, V.ref ra] none _ = ys
  have hmem : ∀ y ∈ ys, y = V.ref ra ∨ y = V.ref rb := fun y hy => by
    rw [← hys] at hy
    unfold cutV at hy
    have hy := List.mem_of_mem_drop (List.mem_of_mem_take hy)
    simp only [List.mem_cons, List.not_mem_nil, or_false] at hy
    rcases hy with h | h | h
    · exact .inl h
    · exact .inr h
    · exact .inl h
  obtain ⟨H9, e9, s9, k9⟩ := newH hc2 (.lst ys)
  rw [e9]
  have s79 := s8.trans s9
  refine ⟨c2, rfl, ⟨_, sqd k9⟩, ?_⟩
  refine for_list (K := K) (a := c2) (xs := ys) (fun (j : Nat) (σ : L2.St) (H' : Hp) => ∃ (y6 y7 : Option V), σ = [some (.ref a), some (.ref d), some (.ref b0), some (.ref sp), some (.ref rl7), y5, y6, y7] ∧ Same H9 H') ?_ ?_ ?_ ?_
  · exact ⟨_, _, rfl, Same.refl H9⟩
  · rintro j σ H' _ ⟨y6, y7, rfl, s⟩
    exact sqd (s _ _ k9)
  · rintro j x σ HA hx ⟨y6, y7, rfl, sA⟩
    have s7A := s79.trans sA
    obtain ⟨rx, Rx, rfl, krx, hRx⟩ : ∃ rx Rx, x = V.ref rx ∧ H7 rx = some (.tup (Rx.map V.int)) ∧ RdG A0 Rx := by
      rcases hmem x (List.mem_of_getElem? hx) with h | h
      · exact ⟨ra, Ra, h, kra, hRa⟩
      · exact ⟨rb, Rb, h, krb, hRb⟩
    refine ⟨_, rfl, _, rfl, _, rfl, .ref b0, rx, sp, A0, Rx, st, rfl, hA7.tp (Tp.same s7A), hG, h46, s7A _ _ krx, hRx.len, s7A _ _ ksp7, hst.asc, hst.mem, hRx.few, fun F S v HB sB hkn hin => ?_⟩
    have s7B := s7A.trans sB
    refine ⟨_, rfl, _, rfl, _, rfl, _, rfl, .ref b0, rx, sp, A0, Rx, st, rfl, hA7.tp (Tp.same s7B), hG, h46, s7B _ _ krx, hRx.len, s7B _ _ ksp7, hst.asc, hst.mem, hRx.few, hRx.sml, fun F' S' v' HC sC hkn' hin' => ?_⟩
    obtain ⟨rfl, rfl⟩ := hkn.uniq hkn'
    have hFG := kn_good hG h46 hst.asc hst.mem hRx.few hkn
    obtain ⟨I, _⟩ := hkn.inv hG hst.asc hst.mem
    have hKl : ∀ g ∈ S, g.length ≤ 1000000 := fun g hg => by
      have := asc_short (lo := 0) (hi := (A0.length : Int)) (I.ks g hg).asc (fun x hx => (I.ks g hg).mem x hx) (by omega)
      omega
    have hinC : KnIn HC F S v := by
      obtain ⟨b, x, y, h1, h2, h3, h4⟩ := hin
      exact ⟨b, x, y, h1, sC _ _ h2, h3.tp (Tp.same sC), h4.tp (Tp.same sC)⟩
    obtain ⟨bk, xk, yk, rfl, hbk, hxk, _⟩ := id hinC
    refine ⟨_, _, rfl, kn_alk hFG (hRx.few S I.nd I.ks) hKl hinC hin', true, rfl, ?_⟩
    refine iteF ⟨_, rfl, bk, _, _, _, rfl, rfl, sqt hbk, atI0, xk, F, rfl, hxk, hFG, fun HD sD => ⟨rfl, _, rfl, ifF rfl ⟨_, _, rfl, ((sA.trans sB).trans sC).trans sD⟩⟩⟩
  · rintro σ HA ⟨y6, y7, rfl, sA⟩
    have s7A := s79.trans sA
    refine ⟨_, rfl, _, rfl, rl7, _, _, _, rfl, rfl, sqd (s7A _ _ krl), atI0, Nat.zero_le _, fun te hte => ?_⟩
    obtain ⟨HB, eB, sB, kB⟩ := newH hte (.tup (([] : List Int).map V.int))
    rw [show upd HA te (.tup []) = HB from eB]
    have s7B := s7A.trans sB
    refine ⟨.ref b0, ra, te, A0, Ra, [], rfl, hA7.tp (Tp.same s7B), hG, h46, s7B _ _ kra, hRa.len, kB, List.Pairwise.nil, fun p h => (nomatch h), hRa.few, fun F S v HC sC hkn hin => ?_⟩
    obtain ⟨rfl, rfl⟩ := hkn.uniq ⟨0, rfl, rfl⟩
    obtain ⟨bk, xk, yk, rfl, hbk, ⟨c1, u1, rfl, hc1, hu1⟩, ⟨c2', u2, rfl, hc2', hu2⟩⟩ := hin
    have hu1 : u1 = [] := List.length_eq_zero_iff.mp hu1.1
    have hu2 : u2 = [] := List.length_eq_zero_iff.mp hu2.1
    subst hu1 hu2
    refine ⟨Nat.zero_le _, fun t1 ht1 => ?_⟩
    obtain ⟨HD, eD, sD, kD⟩ := newH ht1 (.tup [])
    rw [eD]
    refine ⟨Nat.zero_le _, fun t2 ht2 => ?_⟩
    obtain ⟨HE, eE, sE, kE⟩ := newH ht2 (.tup [])
    rw [eE]
    refine ⟨Nat.le_of_ble_eq_true rfl, fun t3 ht3 => ?_⟩
    obtain ⟨_, rfl, sF, kF⟩ := newH ht3 (.tup [V.ref t1, V.ref t2])
    have sCF := (sD.trans sE).trans sF
    have emp : ∀ {H' : Hp} {a b : Addr}, H' a = some (.tup []) → H' b = some (.tup []) → Alk 4 H' (.ref a) (.ref b) := fun h1 h2 => .inr (.inr (.inr ⟨_, _, [], [], rfl, rfl, h1, h2, rfl, Nat.zero_le _, fun k x y hx => by simp at hx⟩))
    refine ⟨_, _, rfl, .inr (.inr (.inr ⟨bk, t3, _, _, rfl, rfl, sCF _ _ hbk, kF, rfl, (by show 2 ≤ 1000000; decide), fun k x y hx hy => ?_⟩)), q _⟩
    match k, hx, hy with
    | 0, hx, hy =>
      cases hx
      cases hy
      exact emp (sCF _ _ hc1) (sF _ _ (sE _ _ kD))
    | 1, hx, hy =>
      cases hx
      cases hy
      exact emp (sCF _ _ hc2') (sF _ _ kE)
    | k + 2, hx, hy => cases hx
end
end NL

namespace NL
open PySem PySem.Spec PyProof.Rows L2
theorem all_mk {l : PySem.W.OpenLaw} {w : World} {K : PySem.W.Frag} {h : Heap} {mg : Str → Option Value} {fa fknown_arena f_successors_of f_parted fcheck_arena fis_ascending f_law_draws f_law_take f_law_great f_law_arena f_law_some f_law_readings f_law_parted f_law_known f_law_same flaw : Addr} (X : K.In h) (G : h.Ns mainGlobals mg) (hfa : mg "law" = some (.ref fa))
    {odknown_arena anknown_arena : Option Addr} {slknown_arena : Array (Option Value)} {ocknown_arena kVknown_arena dcknown_arena pmknown_arena cdknown_arena ctknown_arena : Value}
    {od_successors_of an_successors_of : Option Addr} {sl_successors_of : Array (Option Value)} {oc_successors_of kV_successors_of dc_successors_of pm_successors_of cd_successors_of ct_successors_of : Value}
    {od_parted an_parted : Option Addr} {sl_parted : Array (Option Value)} {oc_parted kV_parted dc_parted pm_parted cd_parted ct_parted : Value}
    {odcheck_arena ancheck_arena : Option Addr} {slcheck_arena : Array (Option Value)} {occheck_arena kVcheck_arena dccheck_arena pmcheck_arena cdcheck_arena ctcheck_arena : Value}
    {odis_ascending anis_ascending : Option Addr} {slis_ascending : Array (Option Value)} {ocis_ascending kVis_ascending dcis_ascending pmis_ascending cdis_ascending ctis_ascending : Value}
    {od_law_draws an_law_draws : Option Addr} {sl_law_draws : Array (Option Value)} {oc_law_draws kV_law_draws dc_law_draws pm_law_draws cd_law_draws ct_law_draws : Value}
    {od_law_take an_law_take : Option Addr} {sl_law_take : Array (Option Value)} {oc_law_take kV_law_take dc_law_take pm_law_take cd_law_take ct_law_take : Value}
    {od_law_great an_law_great : Option Addr} {sl_law_great : Array (Option Value)} {oc_law_great kV_law_great dc_law_great pm_law_great cd_law_great ct_law_great : Value}
    {od_law_arena an_law_arena : Option Addr} {sl_law_arena : Array (Option Value)} {oc_law_arena kV_law_arena dc_law_arena pm_law_arena cd_law_arena ct_law_arena : Value}
    {od_law_some an_law_some : Option Addr} {sl_law_some : Array (Option Value)} {oc_law_some kV_law_some dc_law_some pm_law_some cd_law_some ct_law_some : Value}
    {od_law_readings an_law_readings : Option Addr} {sl_law_readings : Array (Option Value)} {oc_law_readings kV_law_readings dc_law_readings pm_law_readings cd_law_readings ct_law_readings : Value}
    {od_law_parted an_law_parted : Option Addr} {sl_law_parted : Array (Option Value)} {oc_law_parted kV_law_parted dc_law_parted pm_law_parted cd_law_parted ct_law_parted : Value}
    {od_law_known an_law_known : Option Addr} {sl_law_known : Array (Option Value)} {oc_law_known kV_law_known dc_law_known pm_law_known cd_law_known ct_law_known : Value}
    {od_law_same an_law_same : Option Addr} {sl_law_same : Array (Option Value)} {oc_law_same kV_law_same dc_law_same pm_law_same cd_law_same ct_law_same : Value}
    {odlaw anlaw : Option Addr} {sllaw : Array (Option Value)} {oclaw kVlaw dclaw pmlaw cdlaw ctlaw : Value}
    (aknown_arena : PySem.W.nsIn K mainGlobals "known_arena" = some (some (.ref fknown_arena))) (lknown_arena : K.lookup fknown_arena = some ⟨ocknown_arena, odknown_arena, .func (PySem.W.fnOf "known_arena" "known_arena" (defArgs sknown_arena) (defBody sknown_arena) (defScope sknown_arena) .none kVknown_arena dcknown_arena pmknown_arena anknown_arena cdknown_arena ctknown_arena), slknown_arena⟩) (cknown_arena : PySem.W.codeIn K cdknown_arena "known_arena" = true) (kknown_arena : PySem.W.keepIn K (.ref fknown_arena) = true)
    (a_successors_of : PySem.W.nsIn K mainGlobals "_successors_of" = some (some (.ref f_successors_of))) (l_successors_of : K.lookup f_successors_of = some ⟨oc_successors_of, od_successors_of, .func (PySem.W.fnOf "_successors_of" "_successors_of" (defArgs s_successors_of) (defBody s_successors_of) (defScope s_successors_of) .none kV_successors_of dc_successors_of pm_successors_of an_successors_of cd_successors_of ct_successors_of), sl_successors_of⟩) (c_successors_of : PySem.W.codeIn K cd_successors_of "_successors_of" = true) (k_successors_of : PySem.W.keepIn K (.ref f_successors_of) = true)
    (a_parted : PySem.W.nsIn K mainGlobals "_parted" = some (some (.ref f_parted))) (l_parted : K.lookup f_parted = some ⟨oc_parted, od_parted, .func (PySem.W.fnOf "_parted" "_parted" (defArgs s_parted) (defBody s_parted) (defScope s_parted) .none kV_parted dc_parted pm_parted an_parted cd_parted ct_parted), sl_parted⟩) (c_parted : PySem.W.codeIn K cd_parted "_parted" = true) (k_parted : PySem.W.keepIn K (.ref f_parted) = true)
    (acheck_arena : PySem.W.nsIn K mainGlobals "check_arena" = some (some (.ref fcheck_arena))) (lcheck_arena : K.lookup fcheck_arena = some ⟨occheck_arena, odcheck_arena, .func (PySem.W.fnOf "check_arena" "check_arena" (defArgs scheck_arena) (defBody scheck_arena) (defScope scheck_arena) .none kVcheck_arena dccheck_arena pmcheck_arena ancheck_arena cdcheck_arena ctcheck_arena), slcheck_arena⟩) (ccheck_arena : PySem.W.codeIn K cdcheck_arena "check_arena" = true) (kcheck_arena : PySem.W.keepIn K (.ref fcheck_arena) = true)
    (ais_ascending : PySem.W.nsIn K mainGlobals "is_ascending" = some (some (.ref fis_ascending))) (lis_ascending : K.lookup fis_ascending = some ⟨ocis_ascending, odis_ascending, .func (PySem.W.fnOf "is_ascending" "is_ascending" (defArgs sis_ascending) (defBody sis_ascending) (defScope sis_ascending) .none kVis_ascending dcis_ascending pmis_ascending anis_ascending cdis_ascending ctis_ascending), slis_ascending⟩) (cis_ascending : PySem.W.codeIn K cdis_ascending "is_ascending" = true) (kis_ascending : PySem.W.keepIn K (.ref fis_ascending) = true)
    (a_law_draws : PySem.W.nsIn K mainGlobals "_law_draws" = some (some (.ref f_law_draws))) (l_law_draws : K.lookup f_law_draws = some ⟨oc_law_draws, od_law_draws, .func (PySem.W.fnOf "_law_draws" "_law_draws" (defArgs s_law_draws) (defBody s_law_draws) (defScope s_law_draws) .none kV_law_draws dc_law_draws pm_law_draws an_law_draws cd_law_draws ct_law_draws), sl_law_draws⟩) (c_law_draws : PySem.W.codeIn K cd_law_draws "_law_draws" = true) (k_law_draws : PySem.W.keepIn K (.ref f_law_draws) = true)
    (a_law_take : PySem.W.nsIn K mainGlobals "_law_take" = some (some (.ref f_law_take))) (l_law_take : K.lookup f_law_take = some ⟨oc_law_take, od_law_take, .func (PySem.W.fnOf "_law_take" "_law_take" (defArgs s_law_take) (defBody s_law_take) (defScope s_law_take) .none kV_law_take dc_law_take pm_law_take an_law_take cd_law_take ct_law_take), sl_law_take⟩) (c_law_take : PySem.W.codeIn K cd_law_take "_law_take" = true) (k_law_take : PySem.W.keepIn K (.ref f_law_take) = true)
    (a_law_great : PySem.W.nsIn K mainGlobals "_law_great" = some (some (.ref f_law_great))) (l_law_great : K.lookup f_law_great = some ⟨oc_law_great, od_law_great, .func (PySem.W.fnOf "_law_great" "_law_great" (defArgs s_law_great) (defBody s_law_great) (defScope s_law_great) .none kV_law_great dc_law_great pm_law_great an_law_great cd_law_great ct_law_great), sl_law_great⟩) (c_law_great : PySem.W.codeIn K cd_law_great "_law_great" = true) (k_law_great : PySem.W.keepIn K (.ref f_law_great) = true)
    (a_law_arena : PySem.W.nsIn K mainGlobals "_law_arena" = some (some (.ref f_law_arena))) (l_law_arena : K.lookup f_law_arena = some ⟨oc_law_arena, od_law_arena, .func (PySem.W.fnOf "_law_arena" "_law_arena" (defArgs s_law_arena) (defBody s_law_arena) (defScope s_law_arena) .none kV_law_arena dc_law_arena pm_law_arena an_law_arena cd_law_arena ct_law_arena), sl_law_arena⟩) (c_law_arena : PySem.W.codeIn K cd_law_arena "_law_arena" = true) (k_law_arena : PySem.W.keepIn K (.ref f_law_arena) = true)
    (a_law_some : PySem.W.nsIn K mainGlobals "_law_some" = some (some (.ref f_law_some))) (l_law_some : K.lookup f_law_some = some ⟨oc_law_some, od_law_some, .func (PySem.W.fnOf "_law_some" "_law_some" (defArgs s_law_some) (defBody s_law_some) (defScope s_law_some) .none kV_law_some dc_law_some pm_law_some an_law_some cd_law_some ct_law_some), sl_law_some⟩) (c_law_some : PySem.W.codeIn K cd_law_some "_law_some" = true) (k_law_some : PySem.W.keepIn K (.ref f_law_some) = true)
    (a_law_readings : PySem.W.nsIn K mainGlobals "_law_readings" = some (some (.ref f_law_readings))) (l_law_readings : K.lookup f_law_readings = some ⟨oc_law_readings, od_law_readings, .func (PySem.W.fnOf "_law_readings" "_law_readings" (defArgs s_law_readings) (defBody s_law_readings) (defScope s_law_readings) .none kV_law_readings dc_law_readings pm_law_readings an_law_readings cd_law_readings ct_law_readings), sl_law_readings⟩) (c_law_readings : PySem.W.codeIn K cd_law_readings "_law_readings" = true) (k_law_readings : PySem.W.keepIn K (.ref f_law_readings) = true)
    (a_law_parted : PySem.W.nsIn K mainGlobals "_law_parted" = some (some (.ref f_law_parted))) (l_law_parted : K.lookup f_law_parted = some ⟨oc_law_parted, od_law_parted, .func (PySem.W.fnOf "_law_parted" "_law_parted" (defArgs s_law_parted) (defBody s_law_parted) (defScope s_law_parted) .none kV_law_parted dc_law_parted pm_law_parted an_law_parted cd_law_parted ct_law_parted), sl_law_parted⟩) (c_law_parted : PySem.W.codeIn K cd_law_parted "_law_parted" = true) (k_law_parted : PySem.W.keepIn K (.ref f_law_parted) = true)
    (a_law_known : PySem.W.nsIn K mainGlobals "_law_known" = some (some (.ref f_law_known))) (l_law_known : K.lookup f_law_known = some ⟨oc_law_known, od_law_known, .func (PySem.W.fnOf "_law_known" "_law_known" (defArgs s_law_known) (defBody s_law_known) (defScope s_law_known) .none kV_law_known dc_law_known pm_law_known an_law_known cd_law_known ct_law_known), sl_law_known⟩) (c_law_known : PySem.W.codeIn K cd_law_known "_law_known" = true) (k_law_known : PySem.W.keepIn K (.ref f_law_known) = true)
    (a_law_same : PySem.W.nsIn K mainGlobals "_law_same" = some (some (.ref f_law_same))) (l_law_same : K.lookup f_law_same = some ⟨oc_law_same, od_law_same, .func (PySem.W.fnOf "_law_same" "_law_same" (defArgs s_law_same) (defBody s_law_same) (defScope s_law_same) .none kV_law_same dc_law_same pm_law_same an_law_same cd_law_same ct_law_same), sl_law_same⟩) (c_law_same : PySem.W.codeIn K cd_law_same "_law_same" = true) (k_law_same : PySem.W.keepIn K (.ref f_law_same) = true)
    (alaw : PySem.W.nsIn K mainGlobals "law" = some (some (.ref flaw))) (llaw : K.lookup flaw = some ⟨oclaw, odlaw, .func (PySem.W.fnOf "law" "law" (defArgs slaw) (defBody slaw) (defScope slaw) .none kVlaw dclaw pmlaw anlaw cdlaw ctlaw), sllaw⟩) (claw : PySem.W.codeIn K cdlaw "law" = true) (klaw : PySem.W.keepIn K (.ref flaw) = true)
    (z_bool : PySem.W.nsIn K mainGlobals "bool" = some none)
    (z_enumerate : PySem.W.nsIn K mainGlobals "enumerate" = some none)
    (z_int : PySem.W.nsIn K mainGlobals "int" = some none)
    (z_isinstance : PySem.W.nsIn K mainGlobals "isinstance" = some none)
    (z_len : PySem.W.nsIn K mainGlobals "len" = some none)
    (z_list : PySem.W.nsIn K mainGlobals "list" = some none)
    (z_min : PySem.W.nsIn K mainGlobals "min" = some none)
    (z_range : PySem.W.nsIn K mainGlobals "range" = some none)
    (z_set : PySem.W.nsIn K mainGlobals "set" = some none)
    (z_sorted : PySem.W.nsIn K mainGlobals "sorted" = some none)
    (z_str : PySem.W.nsIn K mainGlobals "str" = some none)
    (z_tuple : PySem.W.nsIn K mainGlobals "tuple" = some none)
    : ∃ fd : FuncData, (∀ (s : Shared) (v : Value), BindsTo s fd ⟨[v], []⟩ [("script", v)]) ∧ ∀ base : Heap, K.In base → base.Ns mainGlobals mg → FnOk l.prog w K mg base CX0 7 fa fd ["script"] (spLaw K) := by
  have e := hfa.symm.trans (PySem.W.mg_of X G alaw)
  cases e
  let T : Txt K mg := {
    z_bool := PySem.W.mg_none_of X G z_bool
    z_enumerate := PySem.W.mg_none_of X G z_enumerate
    z_int := PySem.W.mg_none_of X G z_int
    z_isinstance := PySem.W.mg_none_of X G z_isinstance
    z_len := PySem.W.mg_none_of X G z_len
    z_list := PySem.W.mg_none_of X G z_list
    z_min := PySem.W.mg_none_of X G z_min
    z_range := PySem.W.mg_none_of X G z_range
    z_set := PySem.W.mg_none_of X G z_set
    z_sorted := PySem.W.mg_none_of X G z_sorted
    z_str := PySem.W.mg_none_of X G z_str
    z_tuple := PySem.W.mg_none_of X G z_tuple
    aknown_arena := fknown_arena
    dknown_arena := _
    Fknown_arena := fun_mk (st := sknown_arena) lknown_arena cknown_arena kknown_arena
    mknown_arena := PySem.W.mg_of X G aknown_arena
    a_successors_of := f_successors_of
    d_successors_of := _
    F_successors_of := fun_mk (st := s_successors_of) l_successors_of c_successors_of k_successors_of
    m_successors_of := PySem.W.mg_of X G a_successors_of
    a_parted := f_parted
    d_parted := _
    F_parted := fun_mk (st := s_parted) l_parted c_parted k_parted
    m_parted := PySem.W.mg_of X G a_parted
    acheck_arena := fcheck_arena
    dcheck_arena := _
    Fcheck_arena := fun_mk (st := scheck_arena) lcheck_arena ccheck_arena kcheck_arena
    mcheck_arena := PySem.W.mg_of X G acheck_arena
    ais_ascending := fis_ascending
    dis_ascending := _
    Fis_ascending := fun_mk (st := sis_ascending) lis_ascending cis_ascending kis_ascending
    mis_ascending := PySem.W.mg_of X G ais_ascending
    a_law_draws := f_law_draws
    d_law_draws := _
    F_law_draws := fun_mk (st := s_law_draws) l_law_draws c_law_draws k_law_draws
    m_law_draws := PySem.W.mg_of X G a_law_draws
    a_law_take := f_law_take
    d_law_take := _
    F_law_take := fun_mk (st := s_law_take) l_law_take c_law_take k_law_take
    m_law_take := PySem.W.mg_of X G a_law_take
    a_law_great := f_law_great
    d_law_great := _
    F_law_great := fun_mk (st := s_law_great) l_law_great c_law_great k_law_great
    m_law_great := PySem.W.mg_of X G a_law_great
    a_law_arena := f_law_arena
    d_law_arena := _
    F_law_arena := fun_mk (st := s_law_arena) l_law_arena c_law_arena k_law_arena
    m_law_arena := PySem.W.mg_of X G a_law_arena
    a_law_some := f_law_some
    d_law_some := _
    F_law_some := fun_mk (st := s_law_some) l_law_some c_law_some k_law_some
    m_law_some := PySem.W.mg_of X G a_law_some
    a_law_readings := f_law_readings
    d_law_readings := _
    F_law_readings := fun_mk (st := s_law_readings) l_law_readings c_law_readings k_law_readings
    m_law_readings := PySem.W.mg_of X G a_law_readings
    a_law_parted := f_law_parted
    d_law_parted := _
    F_law_parted := fun_mk (st := s_law_parted) l_law_parted c_law_parted k_law_parted
    m_law_parted := PySem.W.mg_of X G a_law_parted
    a_law_known := f_law_known
    d_law_known := _
    F_law_known := fun_mk (st := s_law_known) l_law_known c_law_known k_law_known
    m_law_known := PySem.W.mg_of X G a_law_known
    a_law_same := f_law_same
    d_law_same := _
    F_law_same := fun_mk (st := s_law_same) l_law_same c_law_same k_law_same
    m_law_same := PySem.W.mg_of X G a_law_same
    alaw := fa
    dlaw := _
    Flaw := fun_mk (st := slaw) llaw claw klaw
    mlaw := PySem.W.mg_of X G alaw }
  refine ⟨T.dlaw, fun s v => .of_eq rfl, fun base _ _ => ?_⟩
  exact ok_law T
end NL
open PySem PySem.W PyProof.Rows
set_option maxRecDepth 100000 in
set_option maxHeartbeats 0 in
theorem PySem.Challenge.cw_neverleaves_k77_known_arenas_holds : PySem.Challenge.rw_neverleaves_k77_known_arenas.Holds := by
  w_on; o_law; k_head; (case hw => w_witness2)
  k_fill
  refine L2.walk_of (l := PySem.Challenge.rw_neverleaves_k77_known_arenas) (n := 63) (k := 7) (x := "script") (CX := fun _ => L2.CX0) (sp := fun w => NL.spLaw _) rfl (by decide) rfl ⟨rfl, by decide, by decide⟩ (fun w h Y => PySem.W.kIn_of Y) ?F (fun _ _ a ns hl _ hS => ⟨a, ns, rfl, hS, hl, fun _ => rfl⟩) (fun _ _ _ _ _ h => h)
  case F =>
    intro w mg fa h KX G hmg
    refine' NL.all_mk KX G hmg  ?aknown_arena ?lknown_arena ?cknown_arena ?kknown_arena ?a_successors_of ?l_successors_of ?c_successors_of ?k_successors_of ?a_parted ?l_parted ?c_parted ?k_parted ?acheck_arena ?lcheck_arena ?ccheck_arena ?kcheck_arena ?ais_ascending ?lis_ascending ?cis_ascending ?kis_ascending ?a_law_draws ?l_law_draws ?c_law_draws ?k_law_draws ?a_law_take ?l_law_take ?c_law_take ?k_law_take ?a_law_great ?l_law_great ?c_law_great ?k_law_great ?a_law_arena ?l_law_arena ?c_law_arena ?k_law_arena ?a_law_some ?l_law_some ?c_law_some ?k_law_some ?a_law_readings ?l_law_readings ?c_law_readings ?k_law_readings ?a_law_parted ?l_law_parted ?c_law_parted ?k_law_parted ?a_law_known ?l_law_known ?c_law_known ?k_law_known ?a_law_same ?l_law_same ?c_law_same ?k_law_same ?alaw ?llaw ?claw ?klaw  ?z_bool ?z_enumerate ?z_int ?z_isinstance ?z_len ?z_list ?z_min ?z_range ?z_set ?z_sorted ?z_str ?z_tuple
    (case aknown_arena => k_is); (case lknown_arena => k_is); (case cknown_arena => k_is); (case kknown_arena => k_is)
    (case a_successors_of => k_is); (case l_successors_of => k_is); (case c_successors_of => k_is); (case k_successors_of => k_is)
    (case a_parted => k_is); (case l_parted => k_is); (case c_parted => k_is); (case k_parted => k_is)
    (case acheck_arena => k_is); (case lcheck_arena => k_is); (case ccheck_arena => k_is); (case kcheck_arena => k_is)
    (case ais_ascending => k_is); (case lis_ascending => k_is); (case cis_ascending => k_is); (case kis_ascending => k_is)
    (case a_law_draws => k_is); (case l_law_draws => k_is); (case c_law_draws => k_is); (case k_law_draws => k_is)
    (case a_law_take => k_is); (case l_law_take => k_is); (case c_law_take => k_is); (case k_law_take => k_is)
    (case a_law_great => k_is); (case l_law_great => k_is); (case c_law_great => k_is); (case k_law_great => k_is)
    (case a_law_arena => k_is); (case l_law_arena => k_is); (case c_law_arena => k_is); (case k_law_arena => k_is)
    (case a_law_some => k_is); (case l_law_some => k_is); (case c_law_some => k_is); (case k_law_some => k_is)
    (case a_law_readings => k_is); (case l_law_readings => k_is); (case c_law_readings => k_is); (case k_law_readings => k_is)
    (case a_law_parted => k_is); (case l_law_parted => k_is); (case c_law_parted => k_is); (case k_law_parted => k_is)
    (case a_law_known => k_is); (case l_law_known => k_is); (case c_law_known => k_is); (case k_law_known => k_is)
    (case a_law_same => k_is); (case l_law_same => k_is); (case c_law_same => k_is); (case k_law_same => k_is)
    (case alaw => k_is); (case llaw => k_is); (case claw => k_is); (case klaw => k_is)
    (case z_bool => k_is)
    (case z_enumerate => k_is)
    (case z_int => k_is)
    (case z_isinstance => k_is)
    (case z_len => k_is)
    (case z_list => k_is)
    (case z_min => k_is)
    (case z_range => k_is)
    (case z_set => k_is)
    (case z_sorted => k_is)
    (case z_str => k_is)
    (case z_tuple => k_is)
