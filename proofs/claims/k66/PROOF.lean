import PyProof.Rows.All
import Wide.All
import OpenK.AllK
import Wide.FinOn
import HandS.ForExc
import HandS.ForMost
import HandS.TupAny
import HandS.IsInst
import HandS.Codes
import HandS.FStr
import HandS.Zip
import HandS.TupSets
import HandS.SetFor
import HandS.Strs
import HandS.Conv
import KE.KxIndex
import PySem.Challenge.RW_neverleaves_k66_plays_by_picks
set_option Elab.async false
set_option linter.all false
set_option maxRecDepth 100000

namespace NL
open PySem PySem.Spec PyProof.Rows L2
def topS (i : Nat) : Stmt := PySem.Challenge.pw_neverleaves_k66_plays_by_picks.main.body.getD i (.Pass ⟨0, 0, 0, 0⟩)
abbrev splay_on : Stmt := topS 1
abbrev Nplay_on : List Str := ["arena", "start", "options", "replies", "positions", "index", "reply", "here"]
abbrev Pplay_on : List Str := ["arena", "start", "options", "replies"]
theorem scplay_on : FnScope Nplay_on Pplay_on (defScope splay_on) := ⟨rfl, rfl, rfl, by decide +kernel, rfl, by decide +kernel, by decide +kernel⟩
abbrev s_law_draws : Stmt := topS 3
abbrev N_law_draws : List Str := ["script", "many", "cells", "cell", "rest", "draws", "k", "at", "once"]
abbrev P_law_draws : List Str := ["script", "many"]
theorem sc_law_draws : FnScope N_law_draws P_law_draws (defScope s_law_draws) := ⟨rfl, rfl, rfl, by decide +kernel, rfl, by decide +kernel, by decide +kernel⟩
abbrev s_law_take : Stmt := topS 4
abbrev N_law_take : List Str := ["draws", "many"]
abbrev P_law_take : List Str := ["draws", "many"]
theorem sc_law_take : FnScope N_law_take P_law_take (defScope s_law_take) := ⟨rfl, rfl, rfl, by decide +kernel, rfl, by decide +kernel, by decide +kernel⟩
abbrev s_law_great : Stmt := topS 5
abbrev N_law_great : List Str := ["draws", "size", "a", "b", "c", "bad", "arena", "k", "options"]
abbrev P_law_great : List Str := ["draws"]
theorem sc_law_great : FnScope N_law_great P_law_great (defScope s_law_great) := ⟨rfl, rfl, rfl, by decide +kernel, rfl, by decide +kernel, by decide +kernel⟩
abbrev s_law_arena : Stmt := topS 6
abbrev N_law_arena : List Str := ["draws", "most", "shape", "rare", "menu", "count", "arena", "k", "options", "j", "found", "i", "drawn", "successor", "at", "more"]
abbrev P_law_arena : List Str := ["draws", "most"]
theorem sc_law_arena : FnScope N_law_arena P_law_arena (defScope s_law_arena) := ⟨rfl, rfl, rfl, by decide +kernel, rfl, by decide +kernel, by decide +kernel⟩
abbrev s_law_same : Stmt := topS 7
abbrev N_law_same : List Str := ["actual", "due", "k"]
abbrev P_law_same : List Str := ["actual", "due"]
theorem sc_law_same : FnScope N_law_same P_law_same (defScope s_law_same) := ⟨rfl, rfl, rfl, by decide +kernel, rfl, by decide +kernel, by decide +kernel⟩
abbrev s_law_play : Stmt := topS 8
abbrev N_law_play : List Str := ["arena", "start", "options", "replies", "positions", "k", "at"]
abbrev P_law_play : List Str := ["arena", "start", "options", "replies"]
theorem sc_law_play : FnScope N_law_play P_law_play (defScope s_law_play) := ⟨rfl, rfl, rfl, by decide +kernel, rfl, by decide +kernel, by decide +kernel⟩
abbrev s_law_pick : Stmt := topS 9
abbrev N_law_pick : List Str := ["script", "draws", "arena", "at", "kind", "index", "reply"]
abbrev P_law_pick : List Str := ["script", "draws", "arena", "at"]
theorem sc_law_pick : FnScope N_law_pick P_law_pick (defScope s_law_pick) := ⟨rfl, rfl, rfl, by decide +kernel, rfl, by decide +kernel, by decide +kernel⟩
abbrev slaw : Stmt := topS 10
abbrev Nlaw : List Str := ["script", "draws", "arena", "start", "options", "replies", "at", "k", "pick", "extra", "due", "passed"]
abbrev Plaw : List Str := ["script"]
theorem sclaw : FnScope Nlaw Plaw (defScope slaw) := ⟨rfl, rfl, rfl, by decide +kernel, rfl, by decide +kernel, by decide +kernel⟩
def KT (K : PySem.W.Frag) (a : Addr) (ys : List V) : Prop := ∃ o its n, List.lookup a K = some o ∧ o.cls = .type "tuple" ∧ o.data = .seq its n ∧ its.size ≤ sizeLine ∧ L2.Vals ys its.toList
theorem kt_mk {K : PySem.W.Frag} {a : Addr} {ys : List V} {o : Obj} {its : Array Value} {n : Nat} (h1 : List.lookup a K = some o) (h2 : o.cls = .type "tuple") (h3 : o.data = .seq its n) (h4 : its.size ≤ sizeLine) (h5 : L2.Vals ys its.toList) : KT K a ys := ⟨o, its, n, h1, h2, h3, h4, h5⟩
structure Txt (K : PySem.W.Frag) (mg : Str → Option Value) where
  z_bool : mg "bool" = none
  z_int : mg "int" = none
  z_isinstance : mg "isinstance" = none
  z_len : mg "len" = none
  z_list : mg "list" = none
  z_max : mg "max" = none
  z_min : mg "min" = none
  z_range : mg "range" = none
  z_set : mg "set" = none
  z_sorted : mg "sorted" = none
  z_str : mg "str" = none
  z_tuple : mg "tuple" = none
  z_zip : mg "zip" = none
  aplay_on : Addr
  dplay_on : FuncData
  Fplay_on : Fun K "play_on" "play_on" splay_on aplay_on dplay_on
  mplay_on : mg "play_on" = some (.ref aplay_on)
  a_law_draws : Addr
  d_law_draws : FuncData
  F_law_draws : Fun K "_law_draws" "_law_draws" s_law_draws a_law_draws d_law_draws
  m_law_draws : mg "_law_draws" = some (.ref a_law_draws)
  a_law_take : Addr
  d_law_take : FuncData
  F_law_take : Fun K "_law_take" "_law_take" s_law_take a_law_take d_law_take
  m_law_take : mg "_law_take" = some (.ref a_law_take)
  a_law_great : Addr
  d_law_great : FuncData
  F_law_great : Fun K "_law_great" "_law_great" s_law_great a_law_great d_law_great
  m_law_great : mg "_law_great" = some (.ref a_law_great)
  a_law_arena : Addr
  d_law_arena : FuncData
  F_law_arena : Fun K "_law_arena" "_law_arena" s_law_arena a_law_arena d_law_arena
  m_law_arena : mg "_law_arena" = some (.ref a_law_arena)
  a_law_same : Addr
  d_law_same : FuncData
  F_law_same : Fun K "_law_same" "_law_same" s_law_same a_law_same d_law_same
  m_law_same : mg "_law_same" = some (.ref a_law_same)
  a_law_play : Addr
  d_law_play : FuncData
  F_law_play : Fun K "_law_play" "_law_play" s_law_play a_law_play d_law_play
  m_law_play : mg "_law_play" = some (.ref a_law_play)
  a_law_pick : Addr
  d_law_pick : FuncData
  F_law_pick : Fun K "_law_pick" "_law_pick" s_law_pick a_law_pick d_law_pick
  m_law_pick : mg "_law_pick" = some (.ref a_law_pick)
  alaw : Addr
  dlaw : FuncData
  Flaw : Fun K "law" "law" slaw alaw dlaw
  mlaw : mg "law" = some (.ref alaw)
theorem Txt.bplay_on {K : PySem.W.Frag} {mg : Str → Option Value} (T : Txt K mg) : Binds K T.dplay_on Pplay_on [] := T.Fplay_on.binds fun _ _ _ _ _ _ us hl => match us, hl with | [_, _, _, _], _ => rfl
theorem Txt.b_law_draws {K : PySem.W.Frag} {mg : Str → Option Value} (T : Txt K mg) : Binds K T.d_law_draws P_law_draws [] := T.F_law_draws.binds fun _ _ _ _ _ _ us hl => match us, hl with | [_, _], _ => rfl
theorem Txt.b_law_take {K : PySem.W.Frag} {mg : Str → Option Value} (T : Txt K mg) : Binds K T.d_law_take P_law_take [] := T.F_law_take.binds fun _ _ _ _ _ _ us hl => match us, hl with | [_, _], _ => rfl
theorem Txt.b_law_great {K : PySem.W.Frag} {mg : Str → Option Value} (T : Txt K mg) : Binds K T.d_law_great P_law_great [] := T.F_law_great.binds fun _ _ _ _ _ _ us hl => match us, hl with | [_], _ => rfl
theorem Txt.b_law_arena {K : PySem.W.Frag} {mg : Str → Option Value} (T : Txt K mg) : Binds K T.d_law_arena P_law_arena [] := T.F_law_arena.binds fun _ _ _ _ _ _ us hl => match us, hl with | [_, _], _ => rfl
theorem Txt.b_law_same {K : PySem.W.Frag} {mg : Str → Option Value} (T : Txt K mg) : Binds K T.d_law_same P_law_same [] := T.F_law_same.binds fun _ _ _ _ _ _ us hl => match us, hl with | [_, _], _ => rfl
theorem Txt.b_law_play {K : PySem.W.Frag} {mg : Str → Option Value} (T : Txt K mg) : Binds K T.d_law_play P_law_play [] := T.F_law_play.binds fun _ _ _ _ _ _ us hl => match us, hl with | [_, _, _, _], _ => rfl
theorem Txt.b_law_pick {K : PySem.W.Frag} {mg : Str → Option Value} (T : Txt K mg) : Binds K T.d_law_pick P_law_pick [] := T.F_law_pick.binds fun _ _ _ _ _ _ us hl => match us, hl with | [_, _, _, _], _ => rfl
theorem Txt.blaw {K : PySem.W.Frag} {mg : Str → Option Value} (T : Txt K mg) : Binds K T.dlaw Plaw [] := T.Flaw.binds fun _ _ _ _ _ _ us hl => match us, hl with | [_], _ => rfl
end NL

namespace NL
open PySem PySem.Spec PyProof.Rows L2

/-! ### frames: what stays while the list of draws at d is used up -/
structure Go (d : Addr) (H H' : Hp) : Prop where
  fr : ∀ b o, b ≠ d → H b = some o → H' b = some o
  dr : ∃ ns : List Int, H' d = some (.lst (ns.map V.int))
abbrev Dr (H : Hp) (d : Addr) : Prop := ∃ ns : List Int, H d = some (.lst (ns.map V.int))
theorem Go.refl {d : Addr} {H : Hp} (h : Dr H d) : Go d H H := ⟨fun _ _ _ e => e, h⟩
theorem Go.trans {d : Addr} {H H1 H2 : Hp} (a : Go d H H1) (b : Go d H1 H2) : Go d H H2 := ⟨fun c o n e => b.fr c o n (a.fr c o n e), b.dr⟩
theorem Go.new {d p : Addr} {H : Hp} {o : HO} (h : Dr H d) (hp : H p = none) : Go d H (upd H p o) := by
  obtain ⟨ns, e⟩ := h
  have n : d ≠ p := ne_of_none e hp
  exact ⟨fun b u _ q => by rw [upd_ne (ne_of_none q hp)]; exact q, ⟨ns, by rw [upd_ne n]; exact e⟩⟩
theorem Go.put {d : Addr} {H : Hp} (ns : List Int) : Go d H (upd H d (.lst (ns.map V.int))) := ⟨fun b u n q => by rw [upd_ne n]; exact q, ⟨ns, upd_same⟩⟩
theorem Go.same {d : Addr} {H H' : Hp} (h : Dr H d) (s : Same H H') : Go d H H' := ⟨fun b o _ e => s b o e, by obtain ⟨ns, e⟩ := h; exact ⟨ns, s _ _ e⟩⟩
theorem Go.tup {d a : Addr} {H H' : Hp} {xs : List V} (g : Go d H H') (h : Dr H d) (e : H a = some (.tup xs)) : H' a = some (.tup xs) := by
  refine g.fr a _ ?_ e
  rintro rfl
  obtain ⟨ns, q⟩ := h
  rw [e] at q; cases q
theorem same_new {H : Hp} {p : Addr} (h : H p = none) (o : HO) : Same H (upd H p o) := fun b u q => by rw [upd_ne (ne_of_none q h)]; exact q
/-- all tuples stay -/
def Tp (H H' : Hp) : Prop := ∀ a xs, H a = some (.tup xs) → H' a = some (.tup xs)
theorem Go.tp {d : Addr} {H H' : Hp} (g : Go d H H') (h : Dr H d) : Tp H H' := fun _ _ e => g.tup h e
theorem Tp.same {H H' : Hp} (s : Same H H') : Tp H H' := fun _ _ e => s _ _ e
theorem Tp.trans {H H1 H2 : Hp} (a : Tp H H1) (b : Tp H1 H2) : Tp H H2 := fun x y e => b x y (a x y e)
theorem Tp.refl {H : Hp} : Tp H H := fun _ _ e => e
/-- a list that stays readable whatever is drawn at d -/
def Keep (K : PySem.W.Frag) (d : Addr) (H : Hp) (a : Addr) (xs : List V) : Prop := ∀ H', (∀ b o, b ≠ d → H b = some o → H' b = some o) → SqL K H' a xs
theorem Keep.now {K : PySem.W.Frag} {d a : Addr} {H : Hp} {xs : List V} (k : Keep K d H a xs) : SqL K H a xs := k H fun _ _ _ e => e
theorem Keep.go {K : PySem.W.Frag} {d a : Addr} {H H' : Hp} {xs : List V} (k : Keep K d H a xs) (g : Go d H H') : Keep K d H' a xs := fun H2 f => k H2 fun b o n e => f b o n (g.fr b o n e)
theorem Keep.of {K : PySem.W.Frag} {d a : Addr} {H : Hp} {xs : List V} (n : a ≠ d) (h : H a = some (.lst xs)) : Keep K d H a xs := fun H' f => .inl (.inl (f a _ n h))
/-- what was read ahead of the draws' list stays -/
theorem Keep.old {K : PySem.W.Frag} {d a : Addr} {H0 H : Hp} {xs : List V} (h : SqL K H0 a xs) (hd : H0 d = none) (f : ∀ b o, H0 b = some o → H b = some o) : Keep K d H a xs := fun H' g => by
  rcases h with (h | ⟨o, h⟩) | h
  · exact .inl (.inl (g a _ (ne_of_none h hd) (f _ _ h)))
  · exact .inl (.inr ⟨o, g a _ (ne_of_none h hd) (f _ _ h)⟩)
  · exact .inr h

/-! ### rules whose written part is named (in a comprehension) -/
theorem ix_tupK {X : Cx} {K : PySem.W.Frag} (h : X.K = K) : IxR X (rIxT K) := by subst h; exact ix_tup
theorem ix_listK {X : Cx} {K : PySem.W.Frag} (h : X.K = K) : IxR X (rIxL K) := by subst h; exact ix_list
def rTupOf (K : PySem.W.Frag) : List V → Hp → VK → Prop := fun xs H Q => ∃ p ys, xs = [.ref p] ∧ ((SqL K H p ys ∧ ∀ l, H l = none → Q (.ref l) (upd H l (.tup ys))) ∨ (SqT K H p ys ∧ Q (.ref p) H))
theorem call_tuple_ofK {X : Cx} {K : PySem.W.Frag} (h : X.K = K) : CallR X (.type "tuple") (rTupOf K) := by subst h; exact call_tuple_of
/-! ### texts and words -/
/-- signs a to z alone -/
def Wd (z : Str) : Prop := ∀ c ∈ z.cps.toList, 97 ≤ c ∧ c ≤ 122
instance (z : Str) : Decidable (Wd z) := by unfold Wd; infer_instance
def res : List Str := ["true", "false", "add", "sub", "mul", "div", "mod", "min", "max", "abs", "if", "less", "equal", "not", "all", "any"]
theorem app_list (a b : Str) : (a ++ b).cps.toList = a.cps.toList ++ b.cps.toList := by
  show (a.cps ++ b.cps).toList = _
  simp
theorem len_list (a : Str) : a.length = a.cps.toList.length := by
  show a.cps.size = _
  simp
theorem len_app (a b : Str) : (a ++ b).length = a.length + b.length := by
  rw [len_list, app_list, List.length_append, ← len_list, ← len_list]
theorem str_ext {a b : Str} (h : a.cps.toList = b.cps.toList) : a = b := by
  cases a with | mk x => cases b with | mk y =>
  have : x = y := Array.toList_inj.mp h
  rw [this]
theorem Wd.app {a b : Str} (ha : Wd a) (hb : Wd b) : Wd (a ++ b) := fun c hc => by
  rw [app_list] at hc
  rcases List.mem_append.mp hc with h | h
  · exact ha c h
  · exact hb c h
structure Nam (z : Str) : Prop where
  wd : Wd z
  len : 0 < z.length ∧ z.length ≤ 200
  nr : z ∉ res
structure Nm (z : Str) : Prop where
  wd : Wd z
  len : 0 < z.length ∧ z.length ≤ 150

/-! ### lists at an index -/
theorem atI_mem {α : Type} {xs : List α} {i : Int} (h0 : 0 ≤ i) (h1 : i < xs.length) : ∃ v, atI xs i = some v ∧ v ∈ xs := by
  have hk : i.toNat < xs.length := by omega
  have ek : i = ((i.toNat : Nat) : Int) := by omega
  have q : atI xs ((i.toNat : Nat) : Int) = some xs[i.toNat] := atI_nat (List.getElem?_eq_getElem hk)
  rw [← ek] at q
  exact ⟨_, q, List.getElem_mem hk⟩
theorem atI_map {α β : Type} {f : α → β} {xs : List α} {i : Int} (h0 : 0 ≤ i) (h1 : i < xs.length) : ∃ v, atI (xs.map f) i = some (f v) ∧ v ∈ xs := by
  obtain ⟨v, h, m⟩ := atI_mem (xs := xs.map f) h0 (by rw [List.length_map]; exact h1)
  obtain ⟨u, hu, rfl⟩ := List.mem_map.mp m
  exact ⟨u, h, hu⟩
theorem sqd {K : PySem.W.Frag} {H : Hp} {a : Addr} {xs : List V} (h : H a = some (.lst xs)) : SqL K H a xs := .inl (.inl h)
theorem sqt {K : PySem.W.Frag} {H : Hp} {a : Addr} {xs : List V} (h : H a = some (.tup xs)) : SqT K H a xs := .inl (.inl h)
theorem int_eq {i j : Int} (h : decide (V.int i = V.int j) = true) : i = j := V.int.inj (of_decide_eq_true h)
theorem int_ne {i j : Int} (h : ¬ decide (V.int i = V.int j) = true) : i ≠ j := fun e => h (decide_eq_true (by rw [e]))
section
variable {P : Program} {w : World} {K : PySem.W.Frag} {mg : Str → Option Value} {base : Heap}
/-! ### _law_take -/
def spTake : Sp := fun vs H Q _ => ∃ (d : Addr) (m : Int), vs = [.ref d, .int m] ∧ Dr H d ∧ 0 < m ∧ ∀ r H', Go d H H' → 0 ≤ r → r < m → Q (.int r) H'
theorem ok_law_take (T : Txt K mg) : FnOk P w K mg base CX0 1 T.a_law_take T.d_law_take P_law_take spTake := by
  refine T.F_law_take.ok sc_law_take (fun vs H Q E h => ?_) (fun cdv A outer s H vs Q E hr h => ?_)
  · obtain ⟨d, m, rfl, _⟩ := h
    rfl
  obtain ⟨d, m, rfl, hD, hm, q⟩ := h
  refine ⟨_, (pss_cons (ps_if (pt_cmpR op_eq (pe_callB call_len_seq (by rfl) T.z_len PySem.boot_len (pa_cons (pv 0) pa_nil)) pe_int (nomark _))
    (pss_one (ps_ret pe_int))
    pss_nil)
    (pss_one (ps_ret (pe_op op_mod (pe_callTy call_int1 (by rfl) T.z_int (by decide +kernel) (pa_cons (pe_bm0 PySem.F.plainAttrs_list PySem.F.slot_list_pop PySem.F.type_list_pop mt_pop (pv 0)) pa_nil)) (pv 1))))), ?_⟩
  obtain ⟨ns, hd⟩ := hD
  refine ⟨_, rfl, _, _, rfl, .inl (sqd hd), rfl, _, rfl, ?_⟩
  refine ite2 (fun c => ?_) (fun c => ?_)
  · exact q 0 H (Go.refl ⟨ns, hd⟩) (Int.le_refl 0) hm
  · have hn := int_ne c
    rw [List.length_map] at hn
    have hz : ns ≠ [] := by
      rintro rfl
      exact hn rfl
    have hl : 0 < ns.length := List.length_pos_iff.mpr hz
    have he : (ns.map V.int)[(ns.map V.int).length - 1]? = some (.int ns[ns.length - 1]) := by
      rw [List.length_map, List.getElem?_map, List.getElem?_eq_getElem (by omega)]
      rfl
    refine ⟨_, rfl, .inl ⟨rfl, _, sqd hd⟩, _, _, _, rfl, rfl, hd, he, .inl ⟨_, rfl, ?_⟩⟩
    refine ⟨_, rfl, _, _, rfl, rfl, hm, ?_⟩
    refine q _ _ ?_ (Int.emod_nonneg _ (by omega)) (Int.emod_lt_of_pos _ hm)
    rw [← List.map_dropLast]
    exact Go.put _
end
end NL

namespace NL
open PySem PySem.Spec PyProof.Rows L2
theorem yes_if {σ : L2.St} {H : Hp} {a n : Hp → Prop} (h : a H) : tYes σ H (fun b H3 => if b = true then a H3 else n H3) := by
  show (if true = true then a H else n H)
  rw [if_pos rfl]
  exact h
/-- one reading for two ways -/
theorem cutP {B C : Prop} (f : B → C) (b : B) : C := f b
theorem ifT {c : Bool} {A B : Prop} (h : c = true) (a : A) : if c = true then A else B := by
  rw [if_pos h]; exact a
theorem ifF {c : Bool} {A B : Prop} (h : c = false) (b : B) : if c = true then A else B := by
  rw [if_neg (by rw [h]; exact Bool.false_ne_true)]; exact b
theorem atI0 {α : Type} {x : α} {r : List α} : atI (x :: r) 0 = some x := atI_nat (j := 0) rfl
theorem atI1 {α : Type} {x y : α} {r : List α} : atI (x :: y :: r) 1 = some y := atI_nat (j := 1) rfl
theorem boolE {Q : VK} {b b' : Bool} {H : Hp} (h : b = b') (q : Q (.bl b') H) : Q (.bl b) H := by rw [h]; exact q
theorem big {n : Nat} (h : n ≤ 1000000) : n ≤ sizeLine := Nat.le_trans h (by decide)
theorem big' {n : Nat} (h : n ≤ 1000000) : n < sizeLine := Nat.lt_of_le_of_lt h (by decide)
theorem int_in {x : Int} {l : List Int} : inV (.int x) (l.map V.int) = decide (x ∈ l) := by
  unfold inV
  rw [List.any_map]
  induction l with
  | nil => rfl
  | cons a r ih =>
    rw [List.any_cons, ih]
    show (eqV (.int a) (.int x) || _) = _
    have e : eqV (.int a) (.int x) = decide (x = a) := by
      show (a == x) = _
      rw [Bool.beq_eq_decide_eq]
      exact decide_eq_decide.mpr ⟨fun h => h.symm, fun h => h.symm⟩
    rw [e, ← Bool.decide_or]
    exact decide_eq_decide.mpr List.mem_cons.symm
theorem flat_ints' (l : List Int) : (l.map V.int).all flatV = true := by
  induction l with
  | nil => rfl
  | cons a r ih => rw [List.map_cons, List.all_cons, ih]; rfl
theorem notIn_int {x : Int} {l : List Int} : (if true = true then !inV (V.int x) (l.map V.int) else inV (V.int x) (l.map V.int)) = !decide (x ∈ l) := by
  rw [if_pos rfl, int_in]
end NL

namespace NL
open PySem PySem.Spec PyProof.Rows L2
theorem ixN_in {n : Nat} {k : Int} (h0 : 0 ≤ k) (h1 : k < n) : ixN n k = some k.toNat := by
  unfold ixN
  rw [if_pos h0, if_pos h1]
/-- a change at what was not there before -/
theorem same_put {H H' : Hp} {p : Addr} {o : HO} (s : Same H H') (hp : H p = none) : Same H (upd H' p o) := fun b u e => by
  rw [upd_ne (ne_of_none e hp)]
  exact s b u e
section
variable {P : Program} {w : World} {K : PySem.W.Frag} {mg : Str → Option Value} {base : Heap}
def spDraws (K : PySem.W.Frag) : Sp := fun vs H Q _ => ∃ (a : Addr) (ns : List Int) (m : Int), vs = [.ref a, .int m] ∧ SqL K H a (ns.map V.int) ∧ ns.length ≤ 63 ∧ 0 ≤ m ∧ m ≤ 1000 ∧
  ∀ d H', Same H H' → H d = none → Dr H' d → Q (.ref d) H'
theorem ok_law_draws (T : Txt K mg) : FnOk P w K mg base CX0 1 T.a_law_draws T.d_law_draws P_law_draws (spDraws K) := by
  refine T.F_law_draws.ok sc_law_draws (fun vs H Q E h => ?_) (fun cdv A outer s H vs Q E hr h => ?_)
  · obtain ⟨a, ns, m, rfl, _⟩ := h
    rfl
  obtain ⟨a, ns, m, rfl, hS, hl, m0, m1, q⟩ := h
  refine ⟨_, (pss_cons (ps_setLc (i := 2) (own := [("cell", 3)]) (g := (gName 3)) (tt := tYes) rfl sc_law_draws.nd rfl rfl (sw_true rfl rfl rfl (by decide +kernel)) (pi_list (pv 0)) (blkOk_by (N := N_law_draws) (sc := defScope s_law_draws) (by decide +kernel)) (fun _ _ _ _ _ => (pg_name (i := 3) sc_law_draws.nd rfl (Or.inl rfl))) (fun _ _ _ _ _ => pts_nil) (fun _ _ _ _ _ => (pe_callTy call_int1 (by rfl) T.z_int (by decide +kernel) (pa_cons (pv 3) pa_nil))))
    (C8.pss_cut (ps_if (pt_cmpR op_eq (pe_callB call_len_seq (by rfl) T.z_len PySem.boot_len (pa_cons (pv 2) pa_nil)) pe_int (nomark _))
    (pss_one (ps_expr (pe_bm PySem.F.plainAttrs_list PySem.F.slot_list_append PySem.F.type_list_append mt_append (pv 2) (pa_cons pe_int pa_nil))))
    pss_nil)
    (pss_cons (ps_set (i := 4) sc_law_draws.nd rfl (Or.inl rfl) (pe_callTy call_list_of (by rfl) T.z_list (by decide +kernel) (pa_cons (pv 2) pa_nil)))
    (pss_cons (ps_set (i := 5) sc_law_draws.nd rfl (Or.inl rfl) (pe_lst pa_nil))
    (pss_cons (ps_for  PassesOwn.never rfl (pi_range1 (by rfl) T.z_range (pa_cons (pv 1) pa_nil)) (pg_name (i := 6) sc_law_draws.nd rfl (Or.inl rfl))
    (pss_cons (ps_set (i := 7) sc_law_draws.nd rfl (Or.inl rfl) (pe_op op_mod (pv 6) (pe_callB call_len_seq (by rfl) T.z_len PySem.boot_len (pa_cons (pv 2) pa_nil))))
    (pss_one (ps_if (pt_cmpR op_ge (pe_ix ix_list (pv 2) (pv 7) (fun _ _ => rfl)) (pe_op op_pow pe_int pe_int) (nomark _))
    (pss_cons (ps_expr (pe_bm PySem.F.plainAttrs_list PySem.F.slot_list_append PySem.F.type_list_append mt_append (pv 5) (pa_cons (pe_op op_mod (pe_callTy call_int1 (by rfl) T.z_int (by decide +kernel) (pa_cons (pe_ix ix_list (pv 4) (pv 7) (fun _ _ => rfl)) pa_nil)) pe_int) pa_nil)))
    (pss_one (ps_asg (pe_op op_fdiv (pe_ix ix_list (pv 4) (pv 7) (fun _ _ => rfl)) pe_int) (pg_sub (pv 4) (pv 7) set_list))))
    (pss_cons (ps_set (i := 8) sc_law_draws.nd rfl (Or.inl rfl) (pe_op op_mod (pe_callTy call_int1 (by rfl) T.z_int (by decide +kernel) (pa_cons (pe_op op_add (pe_op op_add (pe_op op_mul (pe_ix ix_list (pv 2) (pv 7) (fun _ _ => rfl)) pe_int) (pe_op op_mul (pv 6) pe_int)) pe_int) pa_nil)) pe_int))
    (pss_one (ps_expr (pe_bm PySem.F.plainAttrs_list PySem.F.slot_list_append PySem.F.type_list_append mt_append (pv 5) (pa_cons (pe_op op_mod (pe_callTy call_int1 (by rfl) T.z_int (by decide +kernel) (pa_cons (pe_op op_add (pe_op op_add (pe_op op_mul (pv 8) (pv 8)) (pe_op op_mul pe_int (pv 8))) (pv 6)) pa_nil)) pe_int) pa_nil)))))))))
    (pss_cons (ps_expr (pe_bm0 PySem.F.plainAttrs_list PySem.F.slot_list_reverse PySem.F.type_list_reverse mt_reverse (pv 5)))
    (pss_one (ps_ret (pv 5))))))))), ?_⟩
  -- cells
  refine ⟨_, rfl, a, rfl, ⟨_, hS⟩, fun c hc => ?_⟩
  refine lc_list (K := K) (a := a) (xs := ns.map V.int) (fun (j : Nat) (H' : Hp) => Same H H' ∧ H' c = some (.lst ((ns.take j).map V.int))) ?_ ?_ ?_ ?_
  · exact ⟨same_new hc _, by rw [upd_same, List.take_zero]; rfl⟩
  · rintro i H' _ ⟨s1, _⟩
    exact s1.seq hS
  · rintro i x H' hx ⟨s1, e1⟩
    rw [List.getElem?_map] at hx
    cases hn : ns[i]? with
    | none => rw [hn] at hx; cases hx
    | some n =>
      rw [hn] at hx
      obtain rfl : V.int n = x := Option.some.inj hx
      refine ⟨rfl, yes_if ?_⟩
      refine ⟨_, rfl, .inl ⟨n, rfl, _, e1, ?_, same_put s1 hc, ?_⟩⟩
      · rw [List.length_map, List.length_take]
        exact small1000 (by omega)
      · rw [upd_same, List.take_add_one, hn, List.map_append]
        rfl
  · rintro H1 ⟨s1, e1⟩
    rw [List.length_map, List.take_length] at e1
    -- at least one cell
    refine ⟨fun σ H2 => ∃ cs : List Int, cs ≠ [] ∧ cs.length ≤ 63 ∧ σ = [some (.ref a), some (.int m), some (.ref c), none, none, none, none, none, none] ∧ Same H H2 ∧ H2 c = some (.lst (cs.map V.int)), ?_, ?_⟩
    · refine ⟨_, rfl, _, _, rfl, .inl (sqd e1), rfl, _, rfl, ?_⟩
      refine ite2 (fun z => ?_) (fun z => ?_)
      · refine ⟨_, rfl, .inl ⟨rfl, _, sqd e1⟩, c, _, _, rfl, rfl, e1, ?_, ?_⟩
        · rw [List.length_map]
          exact small1000 (by omega)
        · have hz := int_eq z
          rw [List.length_map] at hz
          have : ns = [] := List.length_eq_zero_iff.mp (by omega)
          subst this
          exact ⟨[0], by simp, by decide, rfl, same_put s1 hc, upd_same⟩
      · have hz := int_ne z
        rw [List.length_map] at hz
        refine ⟨ns, ?_, hl, rfl, s1, e1⟩
        rintro rfl
        exact hz rfl
    · rintro σ H2 ⟨cs, hcs, hcl, rfl, s2, e2⟩
      have hpos : 0 < cs.length := List.length_pos_iff.mpr hcs
      -- rest, draws
      refine ⟨_, rfl, _, _, rfl, .inl (sqd e2), fun r hr2 => ?_⟩
      have ncr : c ≠ r := ne_of_none e2 hr2
      refine ⟨(Nat.le_of_ble_eq_true rfl), fun d hd => ?_⟩
      have ncd : c ≠ d := ne_of_none (by rw [upd_ne ncr]; exact e2) hd
      have nrd : r ≠ d := ne_of_none upd_same hd
      have hHr : H r = none := s2.free hr2
      have hHd : H d = none := (s2.trans (same_new hr2 _)).free hd
      refine ⟨_, rfl, m, rfl, by omega, by omega, for_range (lo := 0) (n := m.toNat) (fun (j : Nat) (σ : L2.St) (H' : Hp) => ∃ (rs ds : List Int) (y1 y2 y3 : Option V), σ = [some (.ref a), some (.int m), some (.ref c), none, some (.ref r), some (.ref d), y1, y2, y3] ∧ Same H H' ∧ H' c = some (.lst (cs.map V.int)) ∧ H' r = some (.lst (rs.map V.int)) ∧ rs.length = cs.length ∧ H' d = some (.lst (ds.map V.int)) ∧ ds.length ≤ j) ?_ ?_ ?_⟩
      · refine ⟨cs, [], none, none, none, rfl, (s2.trans (same_new hr2 _)).trans (same_new hd _), ?_, ?_, rfl, upd_same, Nat.le_refl _⟩
        · rw [upd_ne ncd, upd_ne ncr]; exact e2
        · rw [upd_ne nrd]; exact upd_same
      · rintro j σ H' hj ⟨rs, ds, y1, y2, y3, rfl, s3, ec, er, hrl, ed, hdl⟩
        have b0 := Int.emod_nonneg ((0 : Int) + (j : Int)) (show (((cs.map V.int).length : Nat) : Int) ≠ 0 by rw [List.length_map]; omega)
        have b1 : (((0 : Int) + (j : Int)) % (((cs.map V.int).length : Nat) : Int)) < (cs.length : Int) := by
          have h := Int.emod_lt_of_pos ((0 : Int) + (j : Int)) (show 0 < (((cs.map V.int).length : Nat) : Int) by rw [List.length_map]; omega)
          rw [List.length_map] at h ⊢
          exact h
        refine ⟨_, rfl, _, rfl, _, _, rfl, .inl (sqd ec), _, _, rfl, rfl, (by show 0 < (((cs.map V.int).length : Nat) : Int); rw [List.length_map]; omega), ?_⟩
        obtain ⟨cv, hcv, _⟩ := atI_map (f := V.int) (xs := cs) b0 b1
        obtain ⟨rv, hrv, _⟩ := atI_map (f := V.int) (xs := rs) b0 (by omega)
        refine ⟨_, rfl, _, rfl, _, _, _, _, rfl, rfl, sqd ec, hcv, _, _, rfl, rfl, ⟨by decide, by decide, by decide⟩, _, _, rfl, rfl, _, rfl, ?_⟩
        refine ite2 (fun z => ?_) (fun z => ?_)
        · refine ⟨_, rfl, .inl ⟨rfl, _, sqd ed⟩, _, rfl, _, rfl, _, _, _, _, rfl, rfl, sqd er, hrv, .inl ⟨_, rfl, _, _, rfl, rfl, (by show (0 : Int) < 1000; decide), d, _, _, rfl, rfl, ed, ?_, ?_⟩⟩
          · rw [List.length_map]
            exact small1000 (by omega)
          · have er2 : ∀ o, (upd H' d o) r = some (.lst (rs.map V.int)) := fun o => by rw [upd_ne nrd]; exact er
            refine ⟨_, rfl, _, rfl, _, _, _, _, rfl, rfl, sqd (er2 _), hrv, _, _, rfl, rfl, ⟨by decide, by decide⟩, _, rfl, _, rfl, r, _, _, _, rfl, rfl, er2 _, ixN_in b0 (by have h : (rs.map V.int).length = rs.length := List.length_map _; omega), ?_⟩
            refine ⟨rs.set (((0 : Int) + (j : Int)) % (((cs.map V.int).length : Nat) : Int)).toNat (rv / 1000), ds ++ [rv % 1000], _, _, _, rfl, same_put (same_put s3 hHd) hHr, ?_, ?_, ?_, ?_, ?_⟩
            · rw [upd_ne ncr, upd_ne ncd]; exact ec
            · rw [upd_same, List.map_set]
            · rw [List.length_set]; exact hrl
            · rw [upd_ne nrd.symm, upd_same, List.map_append]; rfl
            · rw [List.length_append, List.length_singleton]; omega
        · have o0 := fun z : Int => Int.emod_nonneg z (by decide : (2147483647 : Int) ≠ 0)
          have o1 := fun z : Int => Int.emod_lt_of_pos z (by decide : (0 : Int) < 2147483647)
          refine ⟨_, rfl, _, rfl, _, _, _, _, rfl, rfl, sqd ec, hcv, _, _, rfl, rfl, .inr ⟨by decide, by decide⟩, _, rfl, _, _, rfl, rfl, .inr ⟨by decide, by decide⟩, _, _, rfl, rfl, _, _, rfl, rfl, .inl ⟨_, rfl, _, _, rfl, rfl, (by show (0 : Int) < 2147483647; decide), ?_⟩⟩
          refine ⟨_, rfl, .inl ⟨rfl, _, sqd ed⟩, _, rfl, _, rfl, _, _, rfl, rfl, ?_, ?_⟩
          · left
            have h1 := o0 (cv * 48271 + (0 + (j : Int)) * 69621 + 11)
            have h2 := o1 (cv * 48271 + (0 + (j : Int)) * 69621 + 11)
            constructor
            · show -(2 ^ 64) < _
              omega
            · show _ < 2 ^ 64
              omega
          · refine ⟨_, rfl, _, _, rfl, rfl, .inl ⟨by decide, by decide⟩, _, _, rfl, rfl, _, rfl, _, _, rfl, rfl, .inl ⟨_, rfl, _, _, rfl, rfl, (by show (0 : Int) < 1000003; decide), d, _, _, rfl, rfl, ed, ?_, ?_⟩⟩
            · rw [List.length_map]
              exact small1000 (by omega)
            · refine ⟨rs, ds ++ [(((cv * 48271 + (0 + (j : Int)) * 69621 + 11) % 2147483647) * ((cv * 48271 + (0 + (j : Int)) * 69621 + 11) % 2147483647) + 3 * ((cv * 48271 + (0 + (j : Int)) * 69621 + 11) % 2147483647) + (0 + (j : Int))) % 1000003], _, _, _, rfl, same_put s3 hHd, ?_, ?_, hrl, ?_, ?_⟩
              · rw [upd_ne ncd]; exact ec
              · rw [upd_ne nrd]; exact er
              · rw [upd_same, List.map_append]; rfl
              · rw [List.length_append, List.length_singleton]; omega
      · rintro σ H' ⟨rs, ds, y1, y2, y3, rfl, s3, ec, er, hrl, ed, hdl⟩
        refine ⟨_, rfl, .inl ⟨rfl, _, sqd ed⟩, d, _, rfl, rfl, ed, ?_⟩
        refine ⟨_, rfl, q d _ (same_put s3 hHd) hHd ⟨ds.reverse, ?_⟩⟩
        rw [upd_same, List.map_reverse]
end
end NL

namespace NL
open PySem PySem.Spec PyProof.Rows L2
/-! ### rows and what stands in them -/
def Each {α : Type} (R : α → V → Prop) (l : List α) (xs : List V) : Prop := xs.length = l.length ∧ ∀ (k : Nat) a x, l[k]? = some a → xs[k]? = some x → R a x
theorem Each.nil {α : Type} {R : α → V → Prop} : Each R [] [] := ⟨rfl, fun k a x h => by simp at h⟩
theorem Each.mono {α : Type} {R S : α → V → Prop} {l : List α} {xs : List V} (h : Each R l xs) (f : ∀ a x, R a x → S a x) : Each S l xs := ⟨h.1, fun k a x e g => f a x (h.2 k a x e g)⟩
theorem Each.cons {α : Type} {R : α → V → Prop} {l : List α} {xs : List V} {a : α} {x : V} (r : R a x) (h : Each R l xs) : Each R (a :: l) (x :: xs) := ⟨by rw [List.length_cons, List.length_cons, h.1], fun k b y e g => by
  cases k with
  | zero => cases e; cases g; exact r
  | succ k => exact h.2 k b y e g⟩
theorem Each.app {α : Type} {R : α → V → Prop} {l m : List α} {xs ys : List V} (h : Each R l xs) (g : Each R m ys) : Each R (l ++ m) (xs ++ ys) := by
  refine ⟨by rw [List.length_append, List.length_append, h.1, g.1], fun k r x e f => ?_⟩
  by_cases hk : k < l.length
  · rw [List.getElem?_append_left hk] at e
    rw [List.getElem?_append_left (by rw [h.1]; exact hk)] at f
    exact h.2 k r x e f
  · rw [List.getElem?_append_right (by omega)] at e
    rw [List.getElem?_append_right (by rw [h.1]; omega), h.1] at f
    exact g.2 _ r x e f
theorem Each.snoc {α : Type} {R : α → V → Prop} {l : List α} {xs : List V} {a : α} {x : V} (h : Each R l xs) (r : R a x) : Each R (l ++ [a]) (xs ++ [x]) := h.app (.cons r .nil)
theorem Each.take {α : Type} {R : α → V → Prop} {l : List α} {xs : List V} (h : Each R l xs) (n : Nat) : Each R (l.take n) (xs.take n) := ⟨by rw [List.length_take, List.length_take, h.1], fun k a x e g => by
  rw [List.getElem?_take] at e g
  split at e
  · rename_i hk
    rw [if_pos hk] at g
    exact h.2 k a x e g
  · cases e⟩
theorem Each.drop {α : Type} {R : α → V → Prop} {l : List α} {xs : List V} (h : Each R l xs) (n : Nat) : Each R (l.drop n) (xs.drop n) := ⟨by rw [List.length_drop, List.length_drop, h.1], fun k a x e g => by
  rw [List.getElem?_drop] at e g
  exact h.2 _ a x e g⟩
theorem Each.set {α : Type} {R : α → V → Prop} {l : List α} {xs : List V} {a : α} {x : V} (h : Each R l xs) (n : Nat) (r : R a x) : Each R (l.set n a) (xs.set n x) := ⟨by rw [List.length_set, List.length_set, h.1], fun k b y e g => by
  rw [List.getElem?_set] at e g
  by_cases hk : n = k
  · rw [if_pos hk] at e g
    by_cases hl : n < l.length
    · rw [if_pos hl] at e
      rw [if_pos (by rw [h.1]; exact hl)] at g
      cases e; cases g; exact r
    · rw [if_neg hl] at e
      cases e
  · rw [if_neg hk] at e g
    exact h.2 k b y e g⟩
theorem Each.at {α : Type} {R : α → V → Prop} {l : List α} {xs : List V} {a : α} {k : Nat} (h : Each R l xs) (e : l[k]? = some a) : ∃ x, xs[k]? = some x ∧ R a x := by
  have hk : k < xs.length := by
    rw [h.1]
    exact (List.getElem?_eq_some_iff.mp e).1
  exact ⟨_, List.getElem?_eq_getElem hk, h.2 k a _ e (List.getElem?_eq_getElem hk)⟩
theorem Each.atI {α : Type} {R : α → V → Prop} {l : List α} {xs : List V} {i : Int} (h : Each R l xs) (h0 : 0 ≤ i) (h1 : i < l.length) : ∃ a x, l[i.toNat]? = some a ∧ atI xs i = some x ∧ R a x := by
  have hk : i.toNat < l.length := by omega
  obtain ⟨x, hx, r⟩ := h.at (List.getElem?_eq_getElem hk)
  have q : L2.atI xs ((i.toNat : Nat) : Int) = some x := atI_nat hx
  rw [show ((i.toNat : Nat) : Int) = i by omega] at q
  exact ⟨_, x, List.getElem?_eq_getElem hk, q, r⟩
/-! ### options, positions, arenas -/
abbrev Opt := List Int
abbrev Pos' := List Opt
abbrev Ar := List Pos'
def OptIn (H : Hp) (o : Opt) (v : V) : Prop := ∃ b, v = .ref b ∧ H b = some (.tup (o.map V.int))
def PosIn (H : Hp) (os : Pos') (v : V) : Prop := ∃ b xs, v = .ref b ∧ H b = some (.tup xs) ∧ Each (OptIn H) os xs
def ArIn (H : Hp) (A : Ar) (v : V) : Prop := ∃ b xs, v = .ref b ∧ H b = some (.tup xs) ∧ Each (PosIn H) A xs
theorem OptIn.tp {H H' : Hp} {o : Opt} {v : V} (t : Tp H H') (h : OptIn H o v) : OptIn H' o v := by
  obtain ⟨b, e, q⟩ := h
  exact ⟨b, e, t _ _ q⟩
theorem PosIn.tp {H H' : Hp} {o : Pos'} {v : V} (t : Tp H H') (h : PosIn H o v) : PosIn H' o v := by
  obtain ⟨b, xs, e, q, r⟩ := h
  exact ⟨b, xs, e, t _ _ q, r.mono fun a x => OptIn.tp t⟩
theorem ArIn.tp {H H' : Hp} {o : Ar} {v : V} (t : Tp H H') (h : ArIn H o v) : ArIn H' o v := by
  obtain ⟨b, xs, e, q, r⟩ := h
  exact ⟨b, xs, e, t _ _ q, r.mono fun a x => PosIn.tp t⟩
/-- an option of an arena with n positions -/
structure OptG (n : Int) (o : Opt) : Prop where
  ne : o ≠ []
  len : o.length ≤ 60
  mem : ∀ s ∈ o, -1 ≤ s ∧ s < n
  asc : o.Pairwise (· < ·)
def PosG (n : Int) (os : Pos') : Prop := os.length ≤ 12 ∧ ∀ o ∈ os, OptG n o
def ArG (A : Ar) : Prop := A.length ≤ 46 ∧ ∀ os ∈ A, PosG A.length os
theorem OptG.one {n s : Int} (h0 : -1 ≤ s) (h1 : s < n) : OptG n [s] := ⟨by simp, by simp, fun t ht => by rw [List.mem_singleton.mp ht]; exact ⟨h0, h1⟩, List.pairwise_singleton _ _⟩
theorem asc_of {l m : List Int} (h : l.Perm m) (hm : m.Nodup) (hp : l.Pairwise (· ≤ ·)) : l.Pairwise (· < ·) := by
  have hn : l.Nodup := h.nodup_iff.mpr hm
  refine (hp.and hn).imp fun {a b} h => ?_
  obtain ⟨h1, h2⟩ := h
  omega
theorem tp_put {H H' : Hp} {p : Addr} {o : List V} {o' : HO} (t : Tp H H') (h : H' p = some (.lst o)) : Tp H (upd H' p o') := fun a xs e => by
  have n : a ≠ p := fun q => by
    have := t a xs e
    rw [q, h] at this
    cases this
  rw [upd_ne n]
  exact t a xs e
theorem Go.put2 {d p : Addr} {H H' : Hp} {o : HO} (g : Go d H H') (hp : H p = none) (n : p ≠ d) : Go d H (upd H' p o) := ⟨fun b u hb e => by
  rw [upd_ne (ne_of_none e hp)]
  exact g.fr b u hb e, by
  obtain ⟨ns, e⟩ := g.dr
  exact ⟨ns, by rw [upd_ne n.symm]; exact e⟩⟩
theorem new_ne {d p : Addr} {H : Hp} (h : Dr H d) (hp : H p = none) : p ≠ d := by
  rintro rfl
  obtain ⟨ns, e⟩ := h
  rw [hp] at e
  cases e
theorem Go.free {d p : Addr} {H H' : Hp} (g : Go d H H') (hp : H' p = none) : H p = none := by
  cases e : H p with
  | none => rfl
  | some o =>
    by_cases hd : p = d
    · obtain ⟨ns, q⟩ := g.dr
      rw [hd, q] at hp
      cases hp
    · rw [g.fr p o hd e] at hp
      cases hp
end NL

set_option maxHeartbeats 4000000
namespace NL
open PySem PySem.Spec PyProof.Rows L2
section
variable {P : Program} {w : World} {A : Around} {E : Value → Shared → Prop} {s : Shared}
set_option maxHeartbeats 3200000 in
theorem call_set_ints {l : Addr} {items : Array Value} (ns : List Int) {Q : Value → Shared → Prop} (hh : A.handled = none) (hl : s.heap.IsList l items) (hit : IntsAre items.toList ns) (hb : ns.length + 1 < scanBound)
    (h : ∀ (h' : Heap) (tk c : Nat), SetR w h' s.heap.objs.size (fun j => decide (j ∈ ns)) c → c ≤ ns.length → (∀ b o, s.heap.get? b = some o → h'.get? b = some o) → Q (.ref s.heap.objs.size) { s with heap := h', toks := tk }) :
    wpAny (model P w) A (call (.type "set") [.ref l]) Q E s := by
  have hisz : items.size = ns.length := by
    have q := IntsAre.length hit
    rw [Array.length_toList] at q
    exact q
  obtain ⟨c, tl, hmro⟩ := F.called_set.mro
  have hmade := F.called_set.made
  have hsub := F.called_set.sub
  refine wpAny_call (codeAny_of_tree ?_)
  show wpAny _ _ (callAny (.type "set") _) _ _ _
  refine wpAny_pure ⟨Code.quiet_builtin _ (by decide +kernel), codeAny_builtin F.entry_type_call ?_⟩
  rw [Around.under_plain (weight_type_call_type "set" [.ref l] []) rfl]
  have h1 := F.called_set.notType
  have h2 := F.called_set.canCreate
  have hct := F.typeCall_set_1 (.ref l)
  repeat (any_goals (first | assumption | wp_step))
  refine codeAny_mono (code_set_led1 (.ref l) (E := E) (Q₁ := fun obj s₁ => obj = .ref s.heap.objs.size ∧ s₁ = { s with heap := s.heap.push { cls := .type "set", dict := none, data := .set #[] 0 (.fresh 0 0 (!w.params.followText "set-order")) } }) ⟨rfl, rfl⟩) fun r s₁ hr => ?_
  cases r with
  | error e => exact hr
  | ok fl =>
    cases fl with
    | ret obj =>
      obtain ⟨rfl, rfl⟩ := hr
      have hS : (s.heap.push { cls := .type "set", dict := none, data := .set #[] 0 (.fresh 0 0 (!w.params.followText "set-order")) }).get? s.heap.objs.size = some { cls := .type "set", dict := none, data := .set #[] 0 (.fresh 0 0 (!w.params.followText "set-order")) } := Heap.get?_push_size _ rfl
      have hT : Shared.TypeIs { s with heap := s.heap.push { cls := .type "set", dict := none, data := .set #[] 0 (.fresh 0 0 (!w.params.followText "set-order")) } } (.ref s.heap.objs.size) "set" := ⟨_, hS, rfl⟩
      have hli := F.called_set.init.lookup
      have hbi := F.called_set.init.bind (.ref s.heap.objs.size)
      repeat (any_goals (first | assumption | wp_step))
      refine codeAny_mono (codeAny_call_builtin (R := wants (fun r s₂ => r = .none ∧ ∃ h' tk c, s₂ = { s with heap := h', toks := tk } ∧ SetR w h' s.heap.objs.size (fun j => decide (j ∈ ns)) c ∧ c ≤ ns.length ∧
          (∀ b o, s.heap.get? b = some o → h'.get? b = some o)) E) F.called_set.init.plain F.entry_set_init (check_set_init_1 hT ?_)) fun r₂ s₂ hr₂ => ?_
      · obtain ⟨ol, hol, hcl, nl, hdl⟩ := hl
        obtain ⟨ocls, odict, odata, oslots⟩ := ol
        simp only at hcl hdl
        subst hcl; subst hdl
        have hol' : (s.heap.push { cls := .type "set", dict := none, data := .set #[] 0 (.fresh 0 0 (!w.params.followText "set-order")) }).get? l = some { cls := .type "list", dict := odict, data := .seq items nl, slots := oslots } := Heap.get?_push_of_some _ hol
        have hsls := F.sub_list_set
        have hslf := F.sub_list_frozenset
        have hne : (Value.type "list" == Value.type "dict") = false := by decide
        have hl1 : (s.heap.push { cls := .type "set", dict := none, data := .set #[] 0 (.fresh 0 0 (!w.params.followText "set-order")) }).IsList l items := ⟨_, hol', rfl, nl, rfl⟩
        unfold Builtin.«set.__init__» noKeywords Builtin.Frozenset.updateFrom
        generalize hPI : pyIter = PI
        wp_walk
        subst hPI
        refine wpAny_pyIter_list hl1 ?_
        refine wpAny_bind (wpAny_runValue ?_)
        have hlS : l < s.heap.objs.size := Heap.lt_size hol
        have hh3 : A.in1.in1.in1.handled = none := by simp [hh]
        have hneI : l ≠ (s.heap.push { cls := .type "set", dict := none, data := .set #[] 0 (.fresh 0 0 (!w.params.followText "set-order")) }).objs.size := by
          rw [Heap.size_push]; exact Nat.ne_of_lt (Nat.lt_succ_of_lt hlS)
        have hSf : s.heap.objs.size ∉ [(s.heap.push { cls := .type "set", dict := none, data := .set #[] 0 (.fresh 0 0 (!w.params.followText "set-order")) }).objs.size, l] := by
          rw [Heap.size_push]; simp only [List.mem_cons, List.mem_singleton, List.not_mem_nil, or_false, not_or]
          exact ⟨Nat.ne_of_lt (Nat.lt_succ_self _), Nat.ne_of_gt hlS⟩
        have hval : ∀ (i : Nat) (v : Value), items[i]? = some v → ∃ k t, ns[i]? = some k ∧ v = .int k t := fun i v hv => by
          obtain ⟨n, t, e1, e2⟩ := IntsAre.at hit i v (by rw [Array.getElem?_toList]; exact hv)
          exact ⟨n, t, e2, e1⟩
        refine set_update_ints ((Walks.list hh3 _ l hneI items).toS) s.heap.objs.size
          hSf ns hisz hb hval (items.size - 0) 0 _ (by omega) (Nat.zero_le _)
          ⟨⟨_, Heap.get?_push_size _ rfl, rfl, rfl⟩, (hl1.push _)⟩ ?hS0 ?hR
        case hS0 =>
          have hget : ((s.heap.push { cls := .type "set", dict := none, data := .set #[] 0 (.fresh 0 0 (!w.params.followText "set-order")) }).push { cls := .type "list_iterator", data := .fields #[.ref l, .int 0 0] }).get? s.heap.objs.size
              = some { cls := .type "set", dict := none, data := .set #[] 0 (.fresh 0 0 (!w.params.followText "set-order")) } := Heap.get?_push_of_some _ hS
          exact ⟨0, Nat.le_refl 0, setR_new_at hget⟩
        case hR =>
          intro s' c' hm hc' hS'
          obtain ⟨h', g2, d', tk', os'⟩ := s'
          have eg : g2 = s.gens := hm.gens
          have ed : d' = s.drawn := hm.drawn
          have eo : os' = s.os := hm.os
          subst eg; subst ed; subst eo
          show wpAny _ _ _ _ _ _
          refine wpAny_pure ?_
          show wpAny _ _ (ret Value.none) _ _ _
          rw [hisz] at hc'
          refine wpAny_pure ⟨rfl, h', tk', c', rfl, hS', hc', fun b o e => ?_⟩
          have hb0 : b < s.heap.objs.size := Heap.lt_size e
          have hb1 : b ≠ s.heap.objs.size := Nat.ne_of_lt hb0
          have hb2 : b ≠ (s.heap.push { cls := .type "set", dict := none, data := .set #[] 0 (.fresh 0 0 (!w.params.followText "set-order")) }).objs.size := by
            rw [Heap.size_push]; exact Nat.ne_of_lt (Nat.lt_succ_of_lt hb0)
          exact hm.heap b o (by simp only [List.mem_cons, List.mem_singleton, List.not_mem_nil, or_false, not_or]; exact ⟨hb1, hb2⟩) (Heap.get?_push_of_some _ (Heap.get?_push_of_some _ e))
      · cases r₂ with
        | error e => exact hr₂
        | ok fl₂ =>
          cases fl₂ with
          | ret r =>
            obtain ⟨rfl, h', tk, c', rfl, hS', hc', hk'⟩ := hr₂
            repeat (any_goals (first | assumption | wp_step))
            exact h _ _ _ hS' hc' hk'
          | _ => exact hr₂.elim
    | _ => exact hr.elim
end
variable {X : Cx}
def rSetOfI (K : PySem.W.Frag) (w : World) : List V → Hp → VK → Prop := fun xs H Q => ∃ (l : Addr) (ns : List Int), xs = [.ref l] ∧ SqL K H l (ns.map V.int) ∧ ns.length < 64 ∧ ∀ a c, H a = none → c ≤ ns.length → Q (.ref a) (upd H a (SetO w a (fun j => decide (j ∈ ns)) c))
theorem cr_setOfI (hc : X.calm = true) : CallR X (.type "set") (rSetOfI X.K X.w) := by
  intro pins s σ H xs us Q I r h
  obtain ⟨l, ks, rfl, hl, hf, q⟩ := h
  rw [Vals.ref1 r]
  obtain ⟨its, rv, pl, hz⟩ := I.list hl
  have hn : H s.heap.objs.size = none := I.hok.fresh (Nat.le_refl _)
  refine call_set_ints (P := X.prog) (w := X.w) ks (I.ok.hd hc) pl.isList (by simpa using ints_of_vals rv) (by unfold scanBound; omega) fun h' tk c R hc' k => ?_
  exact ⟨.ref s.heap.objs.size, upd H s.heap.objs.size (SetO X.w s.heap.objs.size _ c), I.laid (t' := tk) k (Nat.le_refl _) (setO_new R), rfl, q _ c hn hc'⟩
end NL

namespace NL
open PySem PySem.Spec PyProof.Rows L2
theorem cut_tl {x : V} {r : List V} : cutV (x :: r) (some 1) none = r := by
  unfold cutV
  rw [show HT.sIx (x :: r).length 0 (some 1) = min 1 (x :: r).length from HT.sIx_nat _ _ 1, HT.sIx_none, List.length_cons, show min 1 (r.length + 1) = 1 by omega]
  simp
theorem asc_lt {l : List Int} (h : l.Pairwise (· < ·)) : l.Nodup := h.imp fun {a b} h e => by omega
theorem newH {H : Hp} {p : Addr} (hp : H p = none) (o : HO) : ∃ H', upd H p o = H' ∧ Same H H' ∧ H' p = some o := ⟨_, rfl, same_new hp _, upd_same⟩
section
variable {P : Program} {w : World} {K : PySem.W.Frag} {mg : Str → Option Value} {base : Heap}
/-! ### _law_great -/
def spGreat : Sp := fun vs H Q _ => ∃ d : Addr, vs = [.ref d] ∧ Dr H d ∧ ∀ v A H', Go d H H' → ArIn H' A v → ArG A → Q v H'
theorem ok_law_great (T : Txt K mg) : FnOk P w K mg base CX0 2 T.a_law_great T.d_law_great P_law_great spGreat := by
  have G_law_take := ok_law_take (P := P) (w := w) (base := base) T
  refine T.F_law_great.ok sc_law_great (fun vs H Q E h => ?_) (fun cdv A outer s H vs Q E hr h => ?_)
  · obtain ⟨d, rfl, _⟩ := h
    rfl
  obtain ⟨d, rfl, hD, q⟩ := h
  refine ⟨_, (pss_cons (ps_set (i := 1) sc_law_great.nd rfl (Or.inl rfl) (pe_op op_add pe_int (pe_call G_law_take (hr.mono (by omega)) (by rfl) T.m_law_take T.F_law_take.kp T.b_law_take .nil pass0 (pa_cons (pv 0) (pa_cons pe_int pa_nil)))))
    (pss_cons (ps_set (i := 2) sc_law_great.nd rfl (Or.inl rfl) (pe_call G_law_take (hr.mono (by omega)) (by rfl) T.m_law_take T.F_law_take.kp T.b_law_take .nil pass0 (pa_cons (pv 0) (pa_cons (pv 1) pa_nil))))
    (pss_cons (ps_set (i := 3) sc_law_great.nd rfl (Or.inl rfl) (pe_call G_law_take (hr.mono (by omega)) (by rfl) T.m_law_take T.F_law_take.kp T.b_law_take .nil pass0 (pa_cons (pv 0) (pa_cons (pv 1) pa_nil))))
    (pss_cons (ps_set (i := 4) sc_law_great.nd rfl (Or.inl rfl) (pe_op op_add pe_int (pe_call G_law_take (hr.mono (by omega)) (by rfl) T.m_law_take T.F_law_take.kp T.b_law_take .nil pass0 (pa_cons (pv 0) (pa_cons (pe_ix ix_list (pe_lst (pa_cons pe_int (pa_cons pe_int pa_nil))) (pe_call G_law_take (hr.mono (by omega)) (by rfl) T.m_law_take T.F_law_take.kp T.b_law_take .nil pass0 (pa_cons (pv 0) (pa_cons pe_int pa_nil))) (fun _ _ => rfl)) pa_nil)))))
    (pss_cons (ps_set (i := 5) sc_law_great.nd rfl (Or.inl rfl) (pe_call G_law_take (hr.mono (by omega)) (by rfl) T.m_law_take T.F_law_take.kp T.b_law_take .nil pass0 (pa_cons (pv 0) (pa_cons pe_int pa_nil))))
    (pss_cons (ps_set (i := 6) sc_law_great.nd rfl (Or.inl rfl) (pe_lst pa_nil))
    (pss_cons (ps_for  PassesOwn.never rfl (pi_range1 (by rfl) T.z_range (pa_cons (pv 1) pa_nil)) (pg_name (i := 7) sc_law_great.nd rfl (Or.inl rfl))
    (pss_cons (ps_set (i := 8) sc_law_great.nd rfl (Or.inl rfl) (pe_lst (pa_cons (pe_tup (pa_cons (pe_op op_mod (pe_callTy call_int1 (by rfl) T.z_int (by decide +kernel) (pa_cons (pe_op op_add (pv 7) pe_int) pa_nil)) (pv 1)) pa_nil)) (pa_cons (pe_callTy call_tuple_of (by rfl) T.z_tuple (by decide +kernel) (pa_cons (pe_callB (cr_sortedSet rfl) (by rfl) T.z_sorted (by decide +kernel) (pa_cons (pe_callTy (cr_setOfI rfl) (by rfl) T.z_set (by decide +kernel) (pa_cons (pe_lst (pa_cons (pe_op op_mod (pe_callTy call_int1 (by rfl) T.z_int (by decide +kernel) (pa_cons (pe_op op_add (pe_op op_mul (pv 2) (pv 7)) (pv 3)) pa_nil)) (pv 1)) (pa_cons (pe_op op_mod (pe_callTy call_int1 (by rfl) T.z_int (by decide +kernel) (pa_cons (pe_op op_add (pe_op op_mul (pv 7) (pv 7)) (pv 2)) pa_nil)) (pv 1)) pa_nil))) pa_nil)) pa_nil)) pa_nil)) pa_nil))))
    (C8.pss_cut (ps_if (pt_cmpR op_eq (pe_op op_mod (pe_callTy call_int1 (by rfl) T.z_int (by decide +kernel) (pa_cons (pe_op op_add (pv 7) (pv 3)) pa_nil)) (pv 4)) pe_int (nomark _))
    (pss_one (ps_set (i := 8) sc_law_great.nd rfl (Or.inl rfl) (pe_slice sl_list (pv 8) (po_some pe_int) po_none)))
    pss_nil)
    (C8.pss_cut (ps_if (PW.pt (pw_and (pt_cmpR op_eq (pe_op op_mod (pe_callTy call_int1 (by rfl) T.z_int (by decide +kernel) (pa_cons (pe_op op_add (pv 7) (pv 2)) pa_nil)) (pe_op op_add (pv 4) pe_int)) pe_int (nomark _)) (pw_and1 (pt_cmpR op_gt (pv 5) pe_int (nomark _)))))
    (pss_one (ps_set (i := 8) sc_law_great.nd rfl (Or.inl rfl) (pe_ix ix_list (pe_lst (pa_cons (pe_lst (pa_cons (pe_tup (pa_cons (pe_un un_neg pe_int) (pa_cons (pv 7) pa_nil))) pa_nil)) (pa_cons (pe_lst pa_nil) (pa_cons (pe_lst (pa_cons (pe_tup (pa_cons (pe_un un_neg pe_int) pa_nil)) (pa_cons (pe_tup (pa_cons (pe_op op_mod (pe_callTy call_int1 (by rfl) T.z_int (by decide +kernel) (pa_cons (pe_op op_add (pv 7) pe_int) pa_nil)) (pv 1)) pa_nil)) pa_nil))) pa_nil)))) (pe_op op_sub (pv 5) pe_int) (fun _ _ => rfl))))
    pss_nil)
    (pss_one (ps_expr (pe_bm PySem.F.plainAttrs_list PySem.F.slot_list_append PySem.F.type_list_append mt_append (pv 6) (pa_cons (pe_callTy call_tuple_of (by rfl) T.z_tuple (by decide +kernel) (pa_cons (pv 8) pa_nil)) pa_nil))))))))
    (pss_one (ps_ret (pe_callTy call_tuple_of (by rfl) T.z_tuple (by decide +kernel) (pa_cons (pv 6) pa_nil))))))))))), ?_⟩
  refine ⟨_, rfl, d, 37, rfl, hD, by decide, fun u1 H1 g1 a1 b1 => ⟨_, _, rfl, rfl, ?_⟩⟩
  dsimp only
  generalize hN : (9 : Int) + u1 = N
  refine ⟨_, rfl, _, rfl, d, N, rfl, g1.dr, by omega, fun a H2 g2 a2 b2 => ?_⟩
  refine ⟨_, rfl, _, rfl, d, N, rfl, g2.dr, by omega, fun b H3 g3 a3 b3 => ?_⟩
  refine ⟨_, rfl, Nat.le_of_ble_eq_true rfl, fun l hl => ?_⟩
  have g3l := g3.trans (Go.new (o := .lst [.int 9, .int 60]) g3.dr hl)
  refine ⟨_, rfl, d, 2, rfl, g3l.dr, by decide, fun u2 H4 g4 a4 b4 => ?_⟩
  have el : H4 l = some (.lst ([9, 60].map V.int)) := g4.fr l _ (new_ne g3.dr hl) upd_same
  obtain ⟨m, hm, hmm⟩ := atI_map (f := V.int) (xs := ([9, 60] : List Int)) a4 b4
  have hm9 : m = 9 ∨ m = 60 := by simpa using hmm
  refine ⟨l, _, _, _, rfl, rfl, sqd el, hm, ?_⟩
  refine ⟨d, m, rfl, g4.dr, by omega, fun u3 H5 g5 a5 b5 => ⟨_, _, rfl, rfl, ?_⟩⟩
  dsimp only
  generalize hc : (3 : Int) + u3 = c
  refine ⟨_, rfl, d, 4, rfl, g5.dr, by decide, fun bad H6 g6 a6 b6 => ?_⟩
  have g16 := ((((g1.trans g2).trans g3l).trans g4).trans g5).trans g6
  refine ⟨Nat.zero_le _, fun p hp => ?_⟩
  have hpd := new_ne g6.dr hp
  have hp0 := g16.free hp
  refine ⟨_, rfl, N, rfl, by omega, by omega, for_range (lo := 0) (n := N.toNat) (fun (j : Nat) (σ : L2.St) (H' : Hp) => ∃ (xs : List V) (A' : Ar) (y7 y8 : Option V), σ = [some (.ref d), some (.int N), some (.int a), some (.int b), some (.int c), some (.int bad), some (.ref p), y7, y8] ∧ Go d H H' ∧ H' p = some (.lst xs) ∧ Each (PosIn H') A' xs ∧ A'.length = j ∧ ∀ os ∈ A', PosG N os) ?_ ?_ ?_⟩
  · exact ⟨[], [], none, none, rfl, g16.trans (Go.new g6.dr hp), upd_same, .nil, rfl, fun os h => nomatch h⟩
  · rintro j σ H7 hj ⟨xs, A', y7, y8, rfl, g7, e7, hxs, hA, hG⟩
    have hkN : (0 : Int) + (j : Int) < N := by omega
    have hN0 : 0 < N := by omega
    have md : ∀ z : Int, 0 ≤ z % N ∧ z % N < N := fun z => ⟨Int.emod_nonneg z (by omega), Int.emod_lt_of_pos z hN0⟩
    generalize hk : (0 : Int) + (j : Int) = k at hkN ⊢
    have hk0 : 0 ≤ k := by omega
    -- the two options
    refine ⟨_, rfl, _, _, rfl, rfl, .inl ⟨_, rfl, _, rfl, _, _, rfl, rfl, hN0, Nat.le_of_ble_eq_true rfl, fun t1 ht1 => ?_⟩⟩
    have s1 := same_new ht1 (.tup [V.int ((k + 1) % N)])
    have e1 : upd H7 t1 (.tup [V.int ((k + 1) % N)]) t1 = some (.tup [V.int ((k + 1) % N)]) := upd_same
    generalize upd H7 t1 (.tup [V.int ((k + 1) % N)]) = H8 at s1 e1 ⊢
    refine ⟨_, rfl, _, rfl, _, _, rfl, rfl, .inl ⟨by omega, by omega⟩, _, rfl, _, _, rfl, rfl, .inl ⟨_, rfl, _, rfl, _, _, rfl, rfl, hN0, ?_⟩⟩
    refine ⟨_, rfl, _, rfl, _, _, rfl, rfl, .inl ⟨by omega, by omega⟩, _, rfl, _, _, rfl, rfl, .inl ⟨_, rfl, _, rfl, _, _, rfl, rfl, hN0, ?_⟩⟩
    dsimp only
    generalize hx1 : (a * k + b) % N = x1
    generalize hx2 : (k * k + a) % N = x2
    have hb1 := md (a * k + b)
    have hb2 := md (k * k + a)
    rw [hx1] at hb1
    rw [hx2] at hb2
    refine ⟨Nat.le_of_ble_eq_true rfl, fun l1 hl1 => ⟨l1, [x1, x2], rfl, sqd upd_same, (by show 2 < 64; decide), fun s0 c1 hs0 hc1 => ?_⟩⟩
    have s2 := (same_new hl1 (.lst [V.int x1, V.int x2])).trans (same_new hs0 (SetO w s0 (fun j => decide (j ∈ [x1, x2])) c1))
    refine ⟨s0, _, c1, rfl, upd_same, Nat.lt_of_le_of_lt hc1 (by show 2 < 64; decide), fun ns q1 hasc hmem hlen hq1 => ?_⟩
    refine ⟨q1, _, rfl, .inl ⟨sqd upd_same, fun t2 ht2 => ?_⟩⟩
    obtain ⟨Ha, ea, sa, _⟩ := newH hq1 (.lst (ns.map V.int))
    rw [ea] at ht2 ⊢
    obtain ⟨Hb, eb, sb, et2⟩ := newH ht2 (.tup (ns.map V.int))
    rw [eb]
    refine ⟨Nat.le_of_ble_eq_true rfl, fun ol hol => ?_⟩
    obtain ⟨H9, e9, s9, e3⟩ := newH hol (.lst [V.ref t1, V.ref t2])
    rw [e9]
    have s4 := ((s2.trans sa).trans sb).trans s9
    have e2 := s9 _ _ et2
    have s79 := s1.trans s4
    have o1 : OptG N [(k + 1) % N] := .one (by have := md (k + 1); omega) (md (k + 1)).2
    have o2 : OptG N ns := by
      have hmm : ∀ s ∈ ns, s = x1 ∨ s = x2 := fun s hs => by
        have := (hmem s).mp hs
        simpa using this
      refine ⟨fun e => ?_, by rw [hlen]; exact Nat.le_trans hc1 (by show 2 ≤ 60; decide), fun s hs => ?_, hasc⟩
      · have := (hmem x1).mpr (by simp)
        rw [e] at this
        cases this
      · rcases hmm s hs with rfl | rfl <;> omega
    have r1 : OptIn H9 [(k + 1) % N] (.ref t1) := ⟨t1, rfl, s4 _ _ e1⟩
    have r2 : OptIn H9 ns (.ref t2) := ⟨t2, rfl, e2⟩
    let I : L2.St → Hp → Prop := fun σ H' => ∃ (os : Pos') (ol : Addr) (zs : List V), σ = [some (.ref d), some (.int N), some (.int a), some (.int b), some (.int c), some (.int bad), some (.ref p), some (.int k), some (.ref ol)] ∧ Same H7 H' ∧ H' ol = some (.lst zs) ∧ Each (OptIn H') os zs ∧ PosG N os
    -- the first one left out
    refine ⟨I, ?_, ?_⟩
    · refine ⟨_, rfl, _, rfl, _, _, rfl, rfl, .inl ⟨_, rfl, _, rfl, _, _, rfl, rfl, by omega, rfl, _, rfl, ?_⟩⟩
      refine ite2 (fun z => ?_) (fun z => ?_)
      · refine ⟨_, rfl, 1, rfl, ol, _, rfl, sqd e3, fun om hom => ?_⟩
        rw [cut_tl]
        have s5 := same_new hom (.lst [V.ref t2])
        exact ⟨[ns], om, _, rfl, s79.trans s5, upd_same, .cons (r2.tp (.same s5)) .nil, Nat.le_of_ble_eq_true rfl, fun o ho => by rw [List.mem_singleton.mp ho]; exact o2⟩
      · exact ⟨[_, ns], ol, _, rfl, s79, e3, .cons r1 (.cons r2 .nil), Nat.le_of_ble_eq_true rfl, fun o ho => by
          rcases List.mem_cons.mp ho with rfl | ho
          · exact o1
          · rw [List.mem_singleton.mp ho]; exact o2⟩
    rintro σ H10 ⟨os, ol2, zs, rfl, s10, e10, hzs, hos⟩
    -- bad ones
    refine ⟨I, ?_, ?_⟩
    · refine ⟨_, rfl, _, rfl, _, _, rfl, rfl, .inl ⟨_, rfl, _, rfl, _, _, rfl, rfl, _, _, rfl, rfl, by omega, rfl, _, rfl, ?_⟩⟩
      have keep : I [some (.ref d), some (.int N), some (.int a), some (.int b), some (.int c), some (.int bad), some (.ref p), some (.int k), some (.ref ol2)] H10 := ⟨os, ol2, zs, rfl, s10, e10, hzs, hos⟩
      refine ite2 (fun z => ?_) (fun z => ?_)
      · refine ⟨_, rfl, _, _, rfl, rfl, _, rfl, ?_⟩
        refine ite2 (fun z => ?_) (fun z => keep)
        have hbad : 0 < bad := of_decide_eq_true z
        refine ⟨_, rfl, _, rfl, Nat.le_of_ble_eq_true rfl, fun ta hta => ?_⟩
        obtain ⟨Ha, ea, sa, ka⟩ := newH hta (.tup [V.int (-1), V.int k])
        rw [show upd H10 ta (.tup [V.int (-1), V.int k]) = Ha from ea]
        refine ⟨Nat.le_of_ble_eq_true rfl, fun la hla => ?_⟩
        obtain ⟨Hb, eb, sb, kb⟩ := newH hla (.lst [V.ref ta])
        rw [eb]
        refine ⟨Nat.zero_le _, fun lb hlb => ?_⟩
        obtain ⟨Hc, ec, sc, kc⟩ := newH hlb (.lst [])
        rw [ec]
        refine ⟨_, rfl, Nat.le_of_ble_eq_true rfl, fun tb htb => ?_⟩
        obtain ⟨Hd, ed, sd, kd⟩ := newH htb (.tup [V.int (-1)])
        rw [show upd Hc tb (.tup [V.int (-1)]) = Hd from ed]
        refine ⟨_, rfl, _, _, rfl, rfl, .inl ⟨_, rfl, _, rfl, _, _, rfl, rfl, hN0, Nat.le_of_ble_eq_true rfl, fun tc htc => ?_⟩⟩
        obtain ⟨He, ee, se, ke⟩ := newH htc (.tup [V.int ((k + 2) % N)])
        rw [show upd Hd tc (.tup [V.int ((k + 2) % N)]) = He from ee]
        refine ⟨Nat.le_of_ble_eq_true rfl, fun lc hlc => ?_⟩
        obtain ⟨Hf, ef, sf, kf⟩ := newH hlc (.lst [V.ref tb, V.ref tc])
        rw [ef]
        refine ⟨Nat.le_of_ble_eq_true rfl, fun lo hlo => ?_⟩
        obtain ⟨Hg, eg, sg, kg⟩ := newH hlo (.lst [V.ref la, V.ref lb, V.ref lc])
        rw [eg]
        have sag := ((((((sa.trans sb).trans sc).trans sd).trans se).trans sf).trans sg)
        have m2 := md (k + 2)
        refine ⟨_, rfl, _, _, rfl, rfl, ?_⟩
        have hcase : bad = 1 ∨ bad = 2 ∨ bad = 3 := by omega
        rcases hcase with rfl | rfl | rfl
        · refine ⟨lo, _, _, _, rfl, rfl, sqd kg, atI0, ?_⟩
          refine ⟨[[-1, k]], la, _, rfl, s10.trans sag, (((((sc.trans sd).trans se).trans sf).trans sg)) _ _ kb, .cons ⟨ta, rfl, ((((((sb.trans sc).trans sd).trans se).trans sf).trans sg)) _ _ ka⟩ .nil, Nat.le_of_ble_eq_true rfl, fun o ho => ?_⟩
          rw [List.mem_singleton.mp ho]
          refine ⟨by simp, by simp, fun s hs => ?_, ?_⟩
          · simp only [List.mem_cons, List.not_mem_nil, or_false] at hs
            rcases hs with rfl | rfl <;> omega
          · refine List.pairwise_cons.mpr ⟨fun x hx => ?_, List.pairwise_singleton _ _⟩
            rw [List.mem_singleton.mp hx]
            omega
        · refine ⟨lo, _, _, _, rfl, rfl, sqd kg, atI1, ?_⟩
          exact ⟨[], lb, _, rfl, s10.trans sag, ((((sd.trans se).trans sf).trans sg)) _ _ kc, .nil, Nat.zero_le _, fun o ho => nomatch ho⟩
        · refine ⟨lo, _, _, _, rfl, rfl, sqd kg, (atI_nat (j := 2) rfl), ?_⟩
          refine ⟨[[-1], [(k + 2) % N]], lc, _, rfl, s10.trans sag, sg _ _ kf, .cons ⟨tb, rfl, ((se.trans sf).trans sg) _ _ kd⟩ (.cons ⟨tc, rfl, (sf.trans sg) _ _ ke⟩ .nil), Nat.le_of_ble_eq_true rfl, fun o ho => ?_⟩
          rcases List.mem_cons.mp ho with rfl | ho
          · exact .one (by omega) (by omega)
          · rw [List.mem_singleton.mp ho]
            exact .one (by omega) (by omega)
      · exact iteF keep
    rintro σ H11 ⟨os, ol3, zs, rfl, s11, e11, hzs, hos⟩
    have e11p := s11 _ _ e7
    have hxl := hxs.1
    refine ⟨_, rfl, .inl ⟨rfl, _, sqd e11p⟩, _, rfl, ol3, zs, rfl, .inl ⟨sqd e11, fun t ht => ?_⟩⟩
    have st := same_new ht (.tup zs)
    have ept := st _ _ e11p
    refine ⟨p, xs, _, rfl, rfl, ept, big' (by omega), ?_⟩
    refine ⟨xs ++ [.ref t], A' ++ [os], some (.int k), some (.ref ol3), rfl, ((g7.trans (.same g7.dr s11)).trans (.same (g7.trans (.same g7.dr s11)).dr st)).put2 hp0 hpd, upd_same, ?_, ?_, ?_⟩
    · have tp : Tp H7 (upd (upd H11 t (.tup zs)) p (.lst (xs ++ [.ref t]))) := tp_put ((Tp.same s11).trans (Tp.same st)) ept
      refine (hxs.mono fun o x => PosIn.tp tp).snoc ⟨t, zs, rfl, ?_, ?_⟩
      · rw [upd_ne (fun e => by rw [e, e11p] at ht; cases ht)]
        exact upd_same
      · exact hzs.mono fun o x => OptIn.tp (tp_put (Tp.same st) ept)
    · rw [List.length_append, hA]
      rfl
    · intro o ho
      rcases List.mem_append.mp ho with ho | ho
      · exact hG o ho
      · rw [List.mem_singleton.mp ho]
        exact hos
  · rintro σ H7 ⟨xs, A', y7, y8, rfl, g7, e7, hxs, hA, hG⟩
    refine ⟨_, rfl, p, xs, rfl, .inl ⟨sqd e7, fun t ht => ?_⟩⟩
    have st := same_new ht (.tup xs)
    refine q _ A' _ (g7.trans (.same g7.dr st)) ⟨t, xs, rfl, upd_same, hxs.mono fun os x => PosIn.tp (.same st)⟩ ⟨by omega, fun os h => ?_⟩
    rw [show (A'.length : Int) = N by omega]
    exact hG os h
end
end NL

namespace NL
open PySem PySem.Spec PyProof.Rows L2
theorem cut_pre {xs : List V} {k : Nat} : cutV xs none (some (k : Int)) = xs.take k := by
  unfold cutV
  rw [HT.sIx_none, show HT.sIx xs.length xs.length (some (k : Int)) = min k xs.length from HT.sIx_nat _ _ _, List.drop_zero, Nat.sub_zero]
  by_cases h : k ≤ xs.length
  · rw [Nat.min_eq_left h]
  · rw [Nat.min_eq_right (by omega), List.take_length, List.take_of_length_le (by omega)]
theorem slA_of {K : PySem.W.Frag} {a : Addr} {xs : List V} {lo hi : Option Int} {H : Hp} {Q : VK} (ha : H a = some (.tup xs)) (q : ∀ p H', Same H H' → H' p = some (.tup (cutV xs lo hi)) → Q (.ref p) H') : rSlA K (.ref a) lo hi H Q := by
  refine ⟨a, xs, rfl, sqt ha, fun h => ?_, fun _ p hp => q p _ (same_new hp _) upd_same⟩
  refine q a H (Same.refl H) ?_
  have : cutV xs lo hi = xs := by
    unfold cutV
    rw [h.1, h.2, List.drop_zero, Nat.sub_zero]
    exact List.take_length
  rw [this]
  exact ha
theorem catA_of {K : PySem.W.Frag} {a b : Addr} {xs ys : List V} {H : Hp} {Q : VK} (ha : H a = some (.tup xs)) (hb : H b = some (.tup ys)) (hl : xs.length + ys.length ≤ 1000) (q : ∀ p H', Same H H' → H' p = some (.tup (xs ++ ys)) → Q (.ref p) H') : rCatA K (.ref a) (.ref b) H Q := by
  refine ⟨a, b, xs, ys, rfl, rfl, sqt ha, sqt hb, big (by omega), fun h => ?_, fun _ h => ?_, fun _ _ p hp => ?_⟩
  · exact q b H (Same.refl H) (by rw [h, List.nil_append]; exact hb)
  · exact q a H (Same.refl H) (by rw [h, List.append_nil]; exact ha)
  · exact q p _ (same_new hp _) upd_same
theorem rg_ints (a b : Int) : rgV a b = ((List.range (b - a).toNat).map fun i : Nat => a + (i : Int)).map V.int := by
  unfold rgV
  rw [List.map_map]
  rfl
theorem rg_good {u n : Int} (h0 : 0 ≤ u) (h1 : u < 2) (hn : 0 < n) (hm : n ≤ 46) : OptG n ((List.range (n - (0 - u)).toNat).map fun i : Nat => (0 - u) + (i : Int)) := by
  refine ⟨fun e => ?_, ?_, fun s hs => ?_, ?_⟩
  · have h := congrArg List.length e
    rw [List.length_map, List.length_range, List.length_nil] at h
    omega
  · rw [List.length_map, List.length_range]
    omega
  · obtain ⟨i, hi, rfl⟩ := List.mem_map.mp hs
    have := List.mem_range.mp hi
    omega
  · rw [List.pairwise_map]
    exact List.pairwise_lt_range.imp fun {a b} h => by omega
section
variable {P : Program} {w : World} {K : PySem.W.Frag} {mg : Str → Option Value} {base : Heap}
/-! ### _law_arena -/
def spArena : Sp := fun vs H Q _ => ∃ (d : Addr) (most : Int), vs = [.ref d, .int most] ∧ Dr H d ∧ 0 ≤ most ∧ most ≤ 45 ∧ ∀ v A H', Go d H H' → ArIn H' A v → ArG A → Q v H'
theorem ok_law_arena (T : Txt K mg) : FnOk P w K mg base CX0 3 T.a_law_arena T.d_law_arena P_law_arena spArena := by
  have G_law_take := ok_law_take (P := P) (w := w) (base := base) T
  have G_law_great := ok_law_great (P := P) (w := w) (base := base) T
  refine T.F_law_arena.ok sc_law_arena (fun vs H Q E h => ?_) (fun cdv A outer s H vs Q E hr h => ?_)
  · obtain ⟨d, most, rfl, _⟩ := h
    rfl
  obtain ⟨d, most, rfl, hD, m0, m1, q⟩ := h
  refine ⟨_, (pss_cons (ps_set (i := 2) sc_law_arena.nd rfl (Or.inl rfl) (pe_call G_law_take (hr.mono (by omega)) (by rfl) T.m_law_take T.F_law_take.kp T.b_law_take .nil pass0 (pa_cons (pv 0) (pa_cons pe_int pa_nil))))
    (pss_cons (ps_if (pt_cmpR op_eq (pv 2) pe_int (nomark _))
    (pss_one (ps_ret (pe_call G_law_great (hr.mono (by omega)) (by rfl) T.m_law_great T.F_law_great.kp T.b_law_great .nil pass0 (pa_cons (pv 0) pa_nil))))
    pss_nil)
    (pss_cons (ps_set (i := 3) sc_law_arena.nd rfl (Or.inl rfl) (pe_ix ix_list (pe_lst (pa_cons pe_int (pa_cons pe_int (pa_cons pe_int pa_nil)))) (pe_call G_law_take (hr.mono (by omega)) (by rfl) T.m_law_take T.F_law_take.kp T.b_law_take .nil pass0 (pa_cons (pv 0) (pa_cons pe_int pa_nil))) (fun _ _ => rfl)))
    (pss_cons (ps_set (i := 4) sc_law_arena.nd rfl (Or.inl rfl) (pe_ix ix_list (pe_lst (pa_cons (pe_lst (pa_cons pe_int (pa_cons pe_int (pa_cons pe_int (pa_cons pe_int (pa_cons pe_int (pa_cons pe_int pa_nil))))))) (pa_cons (pe_lst (pa_cons pe_int (pa_cons pe_int (pa_cons pe_int (pa_cons pe_int (pa_cons pe_int (pa_cons pe_int pa_nil))))))) pa_nil))) (pe_call G_law_take (hr.mono (by omega)) (by rfl) T.m_law_take T.F_law_take.kp T.b_law_take .nil pass0 (pa_cons (pv 0) (pa_cons pe_int pa_nil))) (fun _ _ => rfl)))
    (pss_cons (ps_set (i := 5) sc_law_arena.nd rfl (Or.inr rfl) (pe_call G_law_take (hr.mono (by omega)) (by rfl) T.m_law_take T.F_law_take.kp T.b_law_take .nil pass0 (pa_cons (pv 0) (pa_cons (pe_op op_add (pv 1) pe_int) pa_nil))))
    (pss_cons (ps_set (i := 6) sc_law_arena.nd rfl (Or.inl rfl) (pe_lst pa_nil))
    (pss_cons (ps_for  PassesOwn.never rfl (pi_range1 (by rfl) T.z_range (pa_cons (pv 5) pa_nil)) (pg_name (i := 7) sc_law_arena.nd rfl (Or.inl rfl))
    (pss_cons (ps_set (i := 8) sc_law_arena.nd rfl (Or.inl rfl) (pe_lst pa_nil))
    (pss_cons (ps_for  PassesOwn.never rfl (pi_range1 (by rfl) T.z_range (pa_cons (pe_ix ix_list (pv 4) (pe_call G_law_take (hr.mono (by omega)) (by rfl) T.m_law_take T.F_law_take.kp T.b_law_take .nil pass0 (pa_cons (pv 0) (pa_cons pe_int pa_nil))) (fun _ _ => rfl)) pa_nil)) (pg_name (i := 9) sc_law_arena.nd rfl (Or.inl rfl))
    (pss_cons (ps_set (i := 10) sc_law_arena.nd rfl (Or.inl rfl) (pe_lst pa_nil))
    (pss_cons (ps_for  PassesOwn.never rfl (pi_range1 (by rfl) T.z_range (pa_cons (pe_op op_add pe_int (pe_ix ix_list (pe_lst (pa_cons pe_int (pa_cons pe_int (pa_cons pe_int (pa_cons pe_int (pa_cons pe_int (pa_cons pe_int pa_nil))))))) (pe_call G_law_take (hr.mono (by omega)) (by rfl) T.m_law_take T.F_law_take.kp T.b_law_take .nil pass0 (pa_cons (pv 0) (pa_cons pe_int pa_nil))) (fun _ _ => rfl))) pa_nil)) (pg_name (i := 11) sc_law_arena.nd rfl (Or.inl rfl))
    (pss_cons (ps_set (i := 12) sc_law_arena.nd rfl (Or.inl rfl) (pe_call G_law_take (hr.mono (by omega)) (by rfl) T.m_law_take T.F_law_take.kp T.b_law_take .nil pass0 (pa_cons (pv 0) (pa_cons (pe_op op_mul (pv 5) (pv 3)) pa_nil))))
    (pss_cons (ps_set (i := 13) sc_law_arena.nd rfl (Or.inl rfl) (pe_op op_fdiv (pv 12) (pv 3)))
    (C8.pss_cut (ps_if (pt_cmpR op_eq (pe_op op_mod (pe_callTy call_int1 (by rfl) T.z_int (by decide +kernel) (pa_cons (pv 12) pa_nil)) (pv 3)) pe_int (nomark _))
    (pss_one (ps_set (i := 13) sc_law_arena.nd rfl (Or.inl rfl) (pe_un un_neg pe_int)))
    pss_nil)
    (pss_one (ps_if (pt_cmpR op_notIn_seq (pv 13) (pv 10) (by rfl))
    (pss_one (ps_expr (pe_bm PySem.F.plainAttrs_list PySem.F.slot_list_append PySem.F.type_list_append mt_append (pv 10) (pa_cons (pv 13) pa_nil))))
    pss_nil))))))
    (pss_one (ps_expr (pe_bm PySem.F.plainAttrs_list PySem.F.slot_list_append PySem.F.type_list_append mt_append (pv 8) (pa_cons (pe_callTy call_tuple_of (by rfl) T.z_tuple (by decide +kernel) (pa_cons (pe_callB (cr_sorted) (by rfl) T.z_sorted (by decide +kernel) (pa_cons (pv 10) pa_nil)) pa_nil)) pa_nil)))))))
    (pss_one (ps_expr (pe_bm PySem.F.plainAttrs_list PySem.F.slot_list_append PySem.F.type_list_append mt_append (pv 6) (pa_cons (pe_callTy call_tuple_of (by rfl) T.z_tuple (by decide +kernel) (pa_cons (pv 8) pa_nil)) pa_nil)))))))
    (C8.pss_cut (ps_if (PW.pt (pw_and (pt_cmpR op_gt (pv 5) pe_int (nomark _)) (pw_and1 (pt_cmpR op_eq (pe_call G_law_take (hr.mono (by omega)) (by rfl) T.m_law_take T.F_law_take.kp T.b_law_take .nil pass0 (pa_cons (pv 0) (pa_cons pe_int pa_nil))) pe_int (nomark _)))))
    (pss_cons (ps_set (i := 14) sc_law_arena.nd rfl (Or.inr rfl) (pe_call G_law_take (hr.mono (by omega)) (by rfl) T.m_law_take T.F_law_take.kp T.b_law_take .nil pass0 (pa_cons (pv 0) (pa_cons (pv 5) pa_nil))))
    (pss_cons (ps_set (i := 15) sc_law_arena.nd rfl (Or.inl rfl) (pe_op op_cat (pe_lst (pa_cons (pe_tupRg rfl (by rfl) T.z_tuple (prg_2 (by rfl) T.z_range (pe_op op_sub pe_int (pe_call G_law_take (hr.mono (by omega)) (by rfl) T.m_law_take T.F_law_take.kp T.b_law_take .nil pass0 (pa_cons (pv 0) (pa_cons pe_int pa_nil)))) (pv 5))) pa_nil)) (pe_lc (own := [("j", 9)]) (g := (gName 9)) (tt := tYes) rfl sc_law_arena.nd (pi_range1 (by rfl) T.z_range (pa_cons pe_int pa_nil)) (blkOk_by (N := N_law_arena) (sc := defScope s_law_arena) (by decide +kernel)) (fun _ _ _ _ _ => (pg_name (i := 9) sc_law_arena.nd rfl (Or.inl rfl))) (fun _ _ _ _ _ => pts_nil) (fun _ _ _ _ _ => (pe_tup (pa_cons (pe_op op_mod (pe_callTy call_int1 (by rfl) T.z_int (by decide +kernel) (pa_cons (pe_op op_add (pe_op op_mul (pv 9) (pv 14)) (pv 9)) pa_nil)) (pv 5)) pa_nil))))))
    (pss_one (ps_asg (pe_slice sl_tupA (pe_op op_catA (pe_ix ix_list (pv 6) (pv 14) (fun _ _ => rfl)) (pe_callTy call_tuple_of (by rfl) T.z_tuple (by decide +kernel) (pa_cons (pv 15) pa_nil))) po_none (po_some pe_int)) (pg_sub (pv 6) (pv 14) set_list)))))
    pss_nil)
    (pss_one (ps_ret (pe_callTy call_tuple_of (by rfl) T.z_tuple (by decide +kernel) (pa_cons (pv 6) pa_nil)))))))))))), ?_⟩
  refine ⟨_, rfl, d, 12, rfl, hD, by decide, fun sh H1 g1 _ _ => ?_⟩
  refine ⟨_, rfl, rfl, _, rfl, ?_⟩
  refine ite2 (fun z => ?_) (fun z => ?_)
  · exact ⟨_, rfl, d, rfl, g1.dr, fun v A H' g hA hG => q v A H' (g1.trans g) hA hG⟩
  -- how rare it is to be out
  refine ⟨Nat.le_of_ble_eq_true rfl, fun l hl => ?_⟩
  have g1l := g1.trans (Go.new (o := .lst [.int 4, .int 14, .int 60]) g1.dr hl)
  refine ⟨_, rfl, d, 3, rfl, g1l.dr, by decide, fun u2 H2 g2 a2 b2 => ?_⟩
  have el : H2 l = some (.lst ([4, 14, 60].map V.int)) := g2.fr l _ (new_ne g1.dr hl) upd_same
  obtain ⟨rare, hra, hrm⟩ := atI_map (f := V.int) (xs := ([4, 14, 60] : List Int)) a2 b2
  have hr3 : 0 < rare ∧ rare ≤ 60 := by
    simp only [List.mem_cons, List.not_mem_nil, or_false] at hrm
    omega
  refine ⟨l, _, _, _, rfl, rfl, sqd el, hra, ?_⟩
  have g12 := g1l.trans g2
  -- how many options
  refine ⟨Nat.le_of_ble_eq_true rfl, fun l1 hl1 => ?_⟩
  obtain ⟨Ha, ea, sa, ka⟩ := newH hl1 (.lst [.int 0, .int 1, .int 1, .int 2, .int 2, .int 3])
  rw [ea]
  refine ⟨Nat.le_of_ble_eq_true rfl, fun l2 hl2 => ?_⟩
  obtain ⟨Hb, eb, sb, kb⟩ := newH hl2 (.lst [.int 1, .int 1, .int 2, .int 2, .int 3, .int 4])
  rw [eb]
  refine ⟨Nat.le_of_ble_eq_true rfl, fun l3 hl3 => ?_⟩
  obtain ⟨Hc, ec, sc, kc⟩ := newH hl3 (.lst [.ref l1, .ref l2])
  rw [ec]
  have gc := g12.trans (.same g12.dr ((sa.trans sb).trans sc))
  refine ⟨_, rfl, d, 2, rfl, gc.dr, by decide, fun u3 H3 g3 a3 b3 => ?_⟩
  have g13 := gc.trans g3
  have nl1 : l1 ≠ d := new_ne g12.dr hl1
  have nl2 : l2 ≠ d := new_ne (g12.trans (.same g12.dr sa)).dr hl2
  have nl3 : l3 ≠ d := new_ne (g12.trans (.same g12.dr (sa.trans sb))).dr hl3
  obtain ⟨ml, M, nml, hmat, eml, hM6, hMb⟩ : ∃ (ml : Addr) (M : List Int), ml ≠ d ∧ atI [V.ref l1, V.ref l2] u3 = some (.ref ml) ∧ H3 ml = some (.lst (M.map V.int)) ∧ M.length = 6 ∧ ∀ x ∈ M, 0 ≤ x ∧ x ≤ 4 := by
    have hc : u3 = 0 ∨ u3 = 1 := by omega
    rcases hc with rfl | rfl
    · exact ⟨l1, [0, 1, 1, 2, 2, 3], nl1, atI0, g3.fr l1 _ nl1 ((sb.trans sc) _ _ ka), rfl, by decide⟩
    · exact ⟨l2, [1, 1, 2, 2, 3, 4], nl2, atI1, g3.fr l2 _ nl2 (sc _ _ kb), rfl, by decide⟩
  refine ⟨l3, _, _, _, rfl, rfl, sqd (g3.fr l3 _ nl3 kc), hmat, ?_⟩
  refine ⟨_, rfl, _, rfl, _, _, rfl, rfl, d, _, rfl, g3.dr, by omega, fun n H4 g4 n0 n1 => ?_⟩
  have g14 := g13.trans g4
  have eml4 := g4.fr ml _ nml eml
  have n46 : n ≤ 46 := by
    have : n < most + 1 := n1
    omega
  refine ⟨Nat.zero_le _, fun p hp => ?_⟩
  have hpd := new_ne g4.dr hp
  have hp0 := g14.free hp
  obtain ⟨H5, e5, s5, k5⟩ := newH hp (.lst [])
  rw [e5]
  have g15 := g14.trans (.same g4.dr s5)
  have eml5 := s5 _ _ eml4
  have npm : p ≠ ml := fun e => by
    rw [e, eml4] at hp
    cases hp
  refine ⟨_, rfl, n, rfl, by omega, by omega, for_range (lo := 0) (n := n.toNat) (fun (j : Nat) (σ : L2.St) (H' : Hp) => ∃ (xs : List V) (A' : Ar) (y7 y8 y9 y10 y11 y12 y13 : Option V), σ = [some (.ref d), some (.int most), some (.int sh), some (.int rare), some (.ref ml), some (.int n), some (.ref p), y7, y8, y9, y10, y11, y12, y13, none, none] ∧ Go d H H' ∧ H' ml = some (.lst (M.map V.int)) ∧ H' p = some (.lst xs) ∧ Each (PosIn H') A' xs ∧ A'.length = j ∧ ∀ os ∈ A', PosG n os) ?_ ?_ ?_⟩
  · exact ⟨[], [], none, none, none, none, none, none, none, rfl, g15, eml5, k5, .nil, rfl, fun os h => nomatch h⟩
  · rintro j σ H7 hj ⟨xs, A', y7, y8, y9, y10, y11, y12, y13, rfl, g7, em7, e7, hxs, hA, hG⟩
    have hn0 : 0 < n := by omega
    generalize hk : (0 : Int) + (j : Int) = k
    refine ⟨Nat.zero_le _, fun ol hol => ?_⟩
    have nol := new_ne g7.dr hol
    obtain ⟨H8, e8, s8, k8⟩ := newH hol (.lst [])
    rw [e8]
    have g78 := Go.same g7.dr s8
    refine ⟨_, rfl, _, rfl, d, 6, rfl, g78.dr, by decide, fun u4 H9 g9 a4 b4 => ?_⟩
    have em9 := g9.fr ml _ nml (s8 _ _ em7)
    obtain ⟨mm, hmm, hmmem⟩ := atI_map (f := V.int) (xs := M) a4 (by rw [hM6]; exact b4)
    have hmb := hMb mm hmmem
    refine ⟨ml, _, _, _, rfl, rfl, sqd em9, hmm, mm, rfl, by omega, by omega, ?_⟩
    have g79 := g78.trans g9
    have e9p := g9.fr p _ hpd (s8 _ _ e7)
    have e9o := g9.fr ol _ nol k8
    have hol7 : H7 ol = none := hol
    refine for_range (lo := 0) (n := mm.toNat) (fun (i : Nat) (σ : L2.St) (H' : Hp) => ∃ (zs : List V) (os : Pos') (y9 y10 y11 y12 y13 : Option V), σ = [some (.ref d), some (.int most), some (.int sh), some (.int rare), some (.ref ml), some (.int n), some (.ref p), some (.int k), some (.ref ol), y9, y10, y11, y12, y13, none, none] ∧ Go d H7 H' ∧ H' ol = some (.lst zs) ∧ Each (OptIn H') os zs ∧ os.length = i ∧ ∀ o ∈ os, OptG n o) ?_ ?_ ?_
    · exact ⟨[], [], y9, y10, y11, y12, y13, rfl, g79, e9o, .nil, rfl, fun o h => nomatch h⟩
    · rintro i σ H10 hi ⟨zs, os, y9, y10, y11, y12, y13, rfl, g10, e10, hzs, hos, hG2⟩
      generalize hk2 : (0 : Int) + (i : Int) = k2
      refine ⟨Nat.zero_le _, fun fl hfl => ?_⟩
      have nfl := new_ne g10.dr hfl
      obtain ⟨H11, e11, s11, k11⟩ := newH hfl (.lst [])
      rw [e11]
      have ga := Go.same g10.dr s11
      refine ⟨Nat.le_of_ble_eq_true rfl, fun l5 hl5 => ?_⟩
      obtain ⟨H12, e12, s12, k12⟩ := newH hl5 (.lst [.int 0, .int 0, .int 1, .int 1, .int 2, .int 3])
      rw [e12]
      have gb := ga.trans (.same ga.dr s12)
      refine ⟨_, rfl, d, 6, rfl, gb.dr, by decide, fun u5 H13 g13' a5 b5 => ?_⟩
      have n5 := new_ne ga.dr hl5
      obtain ⟨mf, hmf, hmfm⟩ := atI_map (f := V.int) (xs := ([0, 0, 1, 1, 2, 3] : List Int)) a5 b5
      have hmf3 : 0 ≤ mf ∧ mf ≤ 3 := by
        simp only [List.mem_cons, List.not_mem_nil, or_false] at hmfm
        omega
      refine ⟨l5, _, _, _, rfl, rfl, sqd (g13'.fr l5 _ n5 k12), hmf, _, _, rfl, rfl, 1 + mf, rfl, by omega, by omega, ?_⟩
      have gc2 := gb.trans g13'
      have ef13 := g13'.fr fl _ nfl (s12 _ _ k11)
      refine for_range (lo := 0) (n := (1 + mf).toNat) (fun (i : Nat) (σ : L2.St) (H' : Hp) => ∃ (fs : List Int) (y11 y12 y13 : Option V), σ = [some (.ref d), some (.int most), some (.int sh), some (.int rare), some (.ref ml), some (.int n), some (.ref p), some (.int k), some (.ref ol), some (.int k2), some (.ref fl), y11, y12, y13, none, none] ∧ Go d H10 H' ∧ H' fl = some (.lst (fs.map V.int)) ∧ fs.Nodup ∧ fs.length ≤ i ∧ (∀ s ∈ fs, -1 ≤ s ∧ s < n) ∧ (0 < i → fs ≠ [])) ?_ ?_ ?_
      · exact ⟨[], y11, y12, y13, rfl, gc2, ef13, List.nodup_nil, Nat.zero_le _, fun s h => (nomatch h), fun h => absurd h (by omega)⟩
      · rintro t σ H14 ht ⟨fs, y11, y12, y13, rfl, g14', e14, hnd, hlen, hmem, hne⟩
        generalize hk3 : (0 : Int) + (t : Int) = k3
        have hpos : 0 < n * rare := Int.mul_pos hn0 hr3.1
        refine ⟨_, rfl, _, rfl, _, rfl, _, _, rfl, rfl, .inl ⟨by omega, by omega⟩, d, n * rare, rfl, g14'.dr, hpos, fun dr H15 g15' d0 d1 => ?_⟩
        refine ⟨_, rfl, _, rfl, _, _, rfl, rfl, ⟨hr3.1, by omega⟩, ?_⟩
        have hq0 : 0 ≤ dr / rare := Int.ediv_nonneg d0 (by omega)
        have hq1 : dr / rare < n := Int.ediv_lt_of_lt_mul hr3.1 d1
        have e15 := g15'.fr fl _ nfl e14
        have g1015 := g14'.trans g15'
        have fin : ∀ sc : Int, -1 ≤ sc → sc < n → ∀ (b : Bool), b = decide (sc ∈ fs) → True := fun _ _ _ _ _ => trivial
        refine ⟨fun σ H' => ∃ sc : Int, σ = [some (.ref d), some (.int most), some (.int sh), some (.int rare), some (.ref ml), some (.int n), some (.ref p), some (.int k), some (.ref ol), some (.int k2), some (.ref fl), some (.int k3), some (.int dr), some (.int sc), none, none] ∧ H' = H15 ∧ -1 ≤ sc ∧ sc < n, ?_, ?_⟩
        · refine ⟨_, rfl, .inl ⟨_, rfl, _, rfl, _, _, rfl, rfl, hr3.1, rfl, _, rfl, ?_⟩⟩
          refine ite2 (fun z => ?_) (fun z => ?_)
          · exact ⟨_, rfl, -1, rfl, rfl, by omega, by omega⟩
          · exact ⟨_, rfl, rfl, by omega, hq1⟩
        rintro σ H16 ⟨sc, rfl, rfl, c0, c1⟩
        refine ⟨_, rfl, _, rfl, fl, _, rfl, .inl (sqd e15), rfl, flat_ints' fs, _, rfl, ?_⟩
        by_cases hin : sc ∈ fs
        · refine ifF (by rw [notIn_int, decide_eq_true hin] <;> rfl) ?_
          exact ⟨fs, _, _, _, rfl, g1015, e15, hnd, by omega, hmem, fun _ e => by rw [e] at hin; cases hin⟩
        · refine ifT (by rw [notIn_int, decide_eq_false hin] <;> rfl) ?_
          refine ⟨_, rfl, .inl ⟨rfl, _, sqd e15⟩, _, rfl, fl, _, _, rfl, rfl, e15, big' (by rw [List.length_map]; omega), ?_⟩
          refine ⟨fs ++ [sc], _, _, _, rfl, g1015.put2 hfl nfl, by rw [upd_same, List.map_append]; rfl, ?_, ?_, ?_, fun _ => by simp⟩
          · exact List.nodup_append.mpr ⟨hnd, by simp, fun a ha b hb e => hin (by rw [← List.mem_singleton.mp hb, ← e]; exact ha)⟩
          · rw [List.length_append]
            exact Nat.add_le_add_right hlen 1
          · intro s hs
            rcases List.mem_append.mp hs with hs | hs
            · exact hmem s hs
            · rw [List.mem_singleton.mp hs]
              exact ⟨c0, c1⟩
      · rintro σ H14 ⟨fs, y11, y12, y13, rfl, g14', e14, hnd, hlen, hmem, hne⟩
        have hfl64 : fs.length ≤ 4 := by omega
        have e14o := g14'.fr ol _ nol e10
        refine ⟨_, rfl, .inl ⟨rfl, _, sqd e14o⟩, _, rfl, fl, fs, rfl, sqd e14, by omega, fun ns q1 hperm hpw hq1 => ?_⟩
        obtain ⟨Hd, ed, sd, kd⟩ := newH hq1 (.lst (ns.map V.int))
        rw [ed]
        refine ⟨q1, _, rfl, .inl ⟨sqd kd, fun t2 ht2 => ?_⟩⟩
        obtain ⟨He, ee, se, ke⟩ := newH ht2 (.tup (ns.map V.int))
        rw [ee]
        have sde := sd.trans se
        have eoe := sde _ _ e14o
        refine ⟨ol, zs, _, rfl, rfl, eoe, big' (by have := hzs.1; omega), ?_⟩
        have ge := g14'.trans (.same g14'.dr sde)
        have tpx : Tp H10 (upd He ol (.lst (zs ++ [.ref t2]))) := tp_put (ge.tp g10.dr) eoe
        have nt2 : t2 ≠ ol := fun e => by
          rw [e, sd _ _ e14o] at ht2
          cases ht2
        refine ⟨zs ++ [.ref t2], os ++ [ns], _, _, _, _, _, rfl, (g10.trans ge).put2 hol7 nol, upd_same, ?_, by rw [List.length_append, hos]; rfl, ?_⟩
        · refine (hzs.mono fun o x => OptIn.tp tpx).snoc ⟨t2, rfl, ?_⟩
          rw [upd_ne nt2]
          exact ke
        · intro o ho
          rcases List.mem_append.mp ho with ho | ho
          · exact hG2 o ho
          · rw [List.mem_singleton.mp ho]
            refine ⟨fun e => ?_, by have := hperm.length_eq; omega, fun s hs => hmem s (hperm.mem_iff.mp hs), asc_of hperm hnd hpw⟩
            rw [e] at hperm
            exact hne (by omega) hperm.symm.eq_nil
    · rintro σ H10 ⟨zs, os, y9, y10, y11, y12, y13, rfl, g10, e10, hzs, hos, hG2⟩
      have e10p := g10.fr p _ hpd e7
      have hxl := hxs.1
      refine ⟨_, rfl, .inl ⟨rfl, _, sqd e10p⟩, _, rfl, ol, zs, rfl, .inl ⟨sqd e10, fun t ht => ?_⟩⟩
      have st := same_new ht (.tup zs)
      have ept := st _ _ e10p
      have gt := (g7.trans g10).trans (.same (g7.trans g10).dr st)
      have ntp : t ≠ p := fun e => by
        rw [e, e10p] at ht
        cases ht
      refine ⟨p, xs, _, rfl, rfl, ept, big' (by omega), ?_⟩
      refine ⟨xs ++ [.ref t], A' ++ [os], some (.int k), some (.ref ol), _, _, _, _, _, rfl, gt.put2 hp0 hpd, ?_, upd_same, ?_, by rw [List.length_append, hA]; rfl, ?_⟩
      · rw [upd_ne npm.symm]
        exact st _ _ (g10.fr ml _ nml em7)
      · have tp : Tp H7 (upd (upd H10 t (.tup zs)) p (.lst (xs ++ [.ref t]))) := tp_put ((g10.tp g7.dr).trans (Tp.same st)) ept
        refine (hxs.mono fun o x => PosIn.tp tp).snoc ⟨t, zs, rfl, ?_, ?_⟩
        · rw [upd_ne ntp]
          exact upd_same
        · exact hzs.mono fun o x => OptIn.tp (tp_put (Tp.same st) ept)
      · intro o ho
        rcases List.mem_append.mp ho with ho | ho
        · exact hG o ho
        · rw [List.mem_singleton.mp ho]
          exact ⟨by omega, hG2⟩
  · rintro σ H7 ⟨xs, A', y7, y8, y9, y10, y11, y12, y13, rfl, g7, em7, e7, hxs, hA, hG⟩
    refine ⟨fun σ H' => ∃ (xs : List V) (A' : Ar) (y7 y8 y9 y10 y11 y12 y13 y14 y15 : Option V), σ = [some (.ref d), some (.int most), some (.int sh), some (.int rare), some (.ref ml), some (.int n), some (.ref p), y7, y8, y9, y10, y11, y12, y13, y14, y15] ∧ Go d H H' ∧ H' p = some (.lst xs) ∧ Each (PosIn H') A' xs ∧ A'.length = n.toNat ∧ ∀ os ∈ A', PosG n os, ?_, ?_⟩
    · refine ⟨_, rfl, _, _, rfl, rfl, _, rfl, ?_⟩
      refine ite2 (fun z => ?_) (fun z => iteF ⟨xs, A', _, _, _, _, _, _, _, _, _, rfl, g7, e7, hxs, hA, hG⟩)
      have hn0 : 0 < n := of_decide_eq_true z
      refine ⟨_, rfl, d, 8, rfl, g7.dr, by decide, fun u4 H9 g9 _ _ => ⟨rfl, _, rfl, ?_⟩⟩
      have e9 := g9.fr p _ hpd e7
      have hxs9 := hxs.mono fun o x => PosIn.tp (g9.tp g7.dr)
      have gg := g7.trans g9
      refine ite2 (fun z => ?_) (fun z => ⟨xs, A', _, _, _, _, _, _, _, _, _, rfl, gg, e9, hxs9, hA, hG⟩)
      refine ⟨_, rfl, _, rfl, d, n, rfl, g9.dr, hn0, fun at_ H10 g10 t0 t1 => ?_⟩
      refine ⟨_, rfl, d, 2, rfl, g10.dr, by decide, fun u H11 g11 u0 u1 => ⟨_, _, rfl, rfl, _, rfl, _, _, rfl, rfl, ⟨by omega, by omega, by omega, by omega, by omega⟩, fun q1 hq1 => ?_⟩⟩
      rw [rg_ints]
      have og1 := rg_good u0 u1 hn0 n46
      generalize (List.range (n - (0 - u)).toNat).map (fun i : Nat => (0 - u) + (i : Int)) = o1 at og1 ⊢
      obtain ⟨Ha, ea, sa, ka⟩ := newH hq1 (.tup (o1.map V.int))
      rw [ea]
      refine ⟨Nat.le_of_ble_eq_true rfl, fun lm hlm => ?_⟩
      obtain ⟨Hb, eb, sb, kb⟩ := newH hlm (.lst [.ref q1])
      rw [eb]
      refine ⟨5, rfl, by decide, by decide, fun D hD => ?_⟩
      refine lc_range (lo := 0) (n := 5) (fun (j : Nat) (H' : Hp) => ∃ (zs : List V) (os : Pos'), Same Hb H' ∧ H' D = some (.lst zs) ∧ Each (OptIn H') os zs ∧ os.length = j ∧ ∀ o ∈ os, OptG n o) ?_ ?_ ?_
      · exact ⟨[], [], same_new hD _, upd_same, .nil, rfl, fun o h => nomatch h⟩
      · rintro j H' hj ⟨zs, os, sj, ej, hzs, hos, hoG⟩
        refine ⟨rfl, yes_if ?_⟩
        refine ⟨_, rfl, _, rfl, _, _, rfl, rfl, .inl ⟨by omega, by omega⟩, _, rfl, _, _, rfl, rfl, .inl ⟨_, rfl, _, rfl, _, _, rfl, rfl, hn0, Nat.le_of_ble_eq_true rfl, fun t ht => ?_⟩⟩
        dsimp only
        generalize hv : ((0 + (j : Int)) * at_ + (0 + (j : Int))) % n = v
        have hv0 : 0 ≤ v := by rw [← hv]; exact Int.emod_nonneg _ (by omega)
        have hv1 : v < n := by rw [← hv]; exact Int.emod_lt_of_pos _ hn0
        obtain ⟨Hc, ec, sc, kc⟩ := newH ht (.tup [V.int v])
        rw [ec]
        have ntD : t ≠ D := fun e => by
          rw [e, ej] at ht
          cases ht
        have ejc := sc _ _ ej
        refine ⟨zs, ejc, big' (by have := hzs.1; omega), zs ++ [.ref t], os ++ [[v]], same_put (sj.trans sc) hD, upd_same, ?_, by rw [List.length_append, hos]; rfl, ?_⟩
        · refine (hzs.mono fun o x => OptIn.tp (tp_put (Tp.same sc) ejc)).snoc ⟨t, rfl, ?_⟩
          rw [upd_ne ntD]
          exact kc
        · intro o ho
          rcases List.mem_append.mp ho with ho | ho
          · exact hoG o ho
          · rw [List.mem_singleton.mp ho]
            exact .one (by omega) hv1
      · rintro H12 ⟨zs, os, sj, ej, hzs, hos, hoG⟩
        refine ⟨lm, D, _, _, rfl, rfl, sj _ _ kb, ej, big (by have := hzs.1; rw [List.length_singleton]; omega), fun mp hmp => ?_⟩
        obtain ⟨Hd, ed, sd, kd⟩ := newH hmp (.lst ([V.ref q1] ++ zs))
        rw [ed]
        have s1 := (sa.trans sb).trans (sj.trans sd)
        have gd : Go d H9 Hd := (g10.trans g11).trans (.same g11.dr s1)
        have hm1 : Each (OptIn Hd) ([o1] ++ os) ([V.ref q1] ++ zs) := (Each.cons ⟨q1, rfl, ((sb.trans sj).trans sd) _ _ ka⟩ .nil).app (hzs.mono fun o x => OptIn.tp (.same sd))
        have edp := gd.fr p _ hpd e9
        have hxd := hxs9.mono fun o x => PosIn.tp (gd.tp g9.dr)
        obtain ⟨os0, x0, hos0, hat, hin⟩ := hxd.atI t0 (by rw [hA]; omega)
        obtain ⟨b0, zs0, rfl, eb0, hzs0⟩ := hin
        have hG0 := hG os0 (List.mem_of_getElem? hos0)
        refine ⟨_, rfl, _, rfl, p, _, _, _, rfl, rfl, sqd edp, hat, _, rfl, mp, _, rfl, .inl ⟨sqd kd, fun t2 ht2 => ?_⟩⟩
        obtain ⟨He, ee, se, ke⟩ := newH ht2 (.tup ([V.ref q1] ++ zs))
        rw [ee]
        refine catA_of (se _ _ eb0) ke (by have h1 := hzs0.1; have h2 := hm1.1; have h3 := hG0.1; rw [h2, List.length_append, hos, List.length_singleton]; omega) fun pc Hf sf ef => ?_
        refine ⟨9, rfl, ?_⟩
        refine slA_of ef fun ps Hg sg eg => ?_
        rw [show cutV (zs0 ++ ([V.ref q1] ++ zs)) none (some 9) = (zs0 ++ ([V.ref q1] ++ zs)).take 9 from cut_pre (k := 9)] at eg
        have seg := (se.trans sf).trans sg
        have egp := seg _ _ edp
        have hgg := gg.trans (gd.trans (.same gd.dr seg))
        have nps : ps ≠ p := fun e => by
          rw [e, egp] at eg
          cases eg
        refine ⟨_, rfl, _, rfl, p, _, _, _, rfl, rfl, egp, ixN_in t0 (by rw [hxd.1, hA]; omega), ?_⟩
        have tpp : Tp Hd (upd Hg p (.lst (xs.set at_.toNat (.ref ps)))) := tp_put (Tp.same seg) egp
        refine ⟨xs.set at_.toNat (.ref ps), A'.set at_.toNat ((os0 ++ ([o1] ++ os)).take 9), _, _, _, _, _, _, _, _, _, rfl, hgg.put2 hp0 hpd, upd_same, ?_, by rw [List.length_set]; exact hA, ?_⟩
        · refine (hxd.mono fun o x => PosIn.tp tpp).set _ ⟨ps, (zs0 ++ ([V.ref q1] ++ zs)).take 9, rfl, ?_, ?_⟩
          · rw [upd_ne nps]
            exact eg
          · exact ((hzs0.app hm1).take 9).mono fun o x => OptIn.tp tpp
        · intro o ho
          rcases List.mem_or_eq_of_mem_set ho with ho | rfl
          · exact hG o ho
          · refine ⟨by rw [List.length_take]; omega, fun w hw => ?_⟩
            have hw := List.mem_of_mem_take hw
            rcases List.mem_append.mp hw with hw | hw
            · exact hG0.2 w hw
            · rcases List.mem_append.mp hw with hw | hw
              · rw [List.mem_singleton.mp hw]
                exact og1
              · exact hoG w hw
    rintro σ H8 ⟨xs, A', y7, y8, y9, y10, y11, y12, y13, y14, y15, rfl, g8, e8, hxs, hA, hG⟩
    refine ⟨_, rfl, p, xs, rfl, .inl ⟨sqd e8, fun t ht => ?_⟩⟩
    have st := same_new ht (.tup xs)
    refine q _ A' _ (g8.trans (.same g8.dr st)) ⟨t, xs, rfl, upd_same, hxs.mono fun os x => PosIn.tp (.same st)⟩ ⟨by omega, fun os h => ?_⟩
    rw [show (A'.length : Int) = n by omega]
    exact hG os h
end
end NL

set_option maxHeartbeats 4000000
namespace NL
open PySem PySem.Spec PyProof.Rows L2 RZ
/-! ### zip of a list and the empty tuple: it ends at once -/
section
variable {P : Program} {w : World} {A : Around} {E : Value → Shared → Prop} {s : Shared}
theorem mix_ends {q ti tu j1 j2 m1 m2 : Addr} {us ws : Array Value} {o1 o2 : Value} {Q : Fin → Shared → Prop} (cold : A.handled = none) (ap : ZipApart q ti tu j1 j2 m1 m2)
    (iq : IsZip s.heap q ti tu .none) (iti : IsPair s.heap ti (.ref j1) (.ref j2)) (itu : IsPair s.heap tu o1 o2) (f1 : s.heap.IsListIter j1 m1 0) (f2 : s.heap.IsTupleIter j2 m2 0)
    (r1 : s.heap.IsList m1 us) (r2 : s.heap.IsTuple m2 ws) (none2 : ws[0]? = none)
    (fin : ∀ g x, (∀ c o, c ≠ q → c ≠ tu → c ≠ j1 → c ≠ j2 → s.heap.get? c = some o → g.get? c = some o) → (∃ o, g.get? x = some o ∧ o.cls = .type "StopIteration") → E (.ref x) { s with heap := g }) :
    wpAny (model P w) A (Builtin.«zip.__next__» ⟨[.ref q], []⟩) Q E s := by
  show wpAny _ _ (field (.ref q) 2 >>= _) _ _ _
  refine wpAny_bind (wpAny_field iq rfl (x := .bool false) rfl ?_); show wpAny _ _ (field (.ref q) 3 >>= _) _ _ _
  refine wpAny_bind (wpAny_field iq rfl (x := .ref ti) rfl (wpAny_bind (wpAny_seqItems iti rfl ?_)))
  show wpAny _ _ (Builtin.SmallTypes.ownedTupleIsFree (.ref q) >>= _) _ _ _
  refine wpAny_bind ?_; unfold Builtin.SmallTypes.ownedTupleIsFree
  refine wpAny_bind (wpAny_field iq rfl (x := .none) rfl (wpAny_pure ?_)); simp only [if_true]
  refine wpAny_bind (wpAny_rule (wpAny_bind (wpAny_field iq rfl (x := .ref tu) rfl ?_)))
  refine wpAny_bind (wpAny_setField_rec iq (by simp) fun g1 iq1 k1 => ?_)
  replace iq1 : IsZip g1 q ti tu .ellipsis := iq1
  refine wpAny_bind ?_; simp only [List.zipIdx_cons, List.zipIdx_nil, List.forIn_cons, List.forIn_nil]
  refine wpAny_bind (wpAny_bind (wpAny_onRaise ?_)); show wpAny _ _ (Builtin.SmallTypes.nextOf (.ref j1) >>= _) _ _ _
  cases first : us[0]? with
  | none =>
    refine wpAny_bind (wpAny_nextOf_list_end cold (f1.extBut k1.extBut ap.i1z) (r1.extBut k1.extBut ap.l1z) first fun g2 x k2 ⟨ox, gx, cx⟩ => ?_)
    have iq2 : IsZip g2 q ti tu .ellipsis := k2 _ _ ap.i1z.symm iq1
    have nx : x ≠ q := fun e => by
      subst e
      rw [iq2] at gx
      cases gx
      simp at cx
    exact wpAny_setField_rec iq2 (by simp) fun g3 _ k3 => fin g3 x (fun c o n1 _ n3 _ e => k3.extBut _ _ n1 (k2 _ _ n3 (k1.extBut _ _ n1 e))) ⟨ox, k3.extBut _ _ nx gx, cx⟩
  | some v =>
    refine wpAny_bind (wpAny_nextOf_list_item (f1.extBut k1.extBut ap.i1z) (r1.extBut k1.extBut ap.l1z) first fun g2 f1' k2 => wpAny_pure ?_)
    have itu2 : IsPair g2 tu o1 o2 := k2.extBut _ _ ap.TOi1 (k1.extBut _ _ ap.TOz itu)
    refine wpAny_bind (wpAny_seqItems itu2 rfl (wpAny_bind (wpAny_updateSeq_pair itu2 fun g3 itu3 k3 => ?_)))
    refine wpAny_bind (wpAny_letGo (wpAny_pure (wpAny_bind (wpAny_bind (wpAny_onRaise ?_)))))
    show wpAny _ _ (Builtin.SmallTypes.nextOf (.ref j2) >>= _) _ _ _
    have f2' := ((f2.extBut k1.extBut ap.i2z).extBut k2.extBut ap.i12.symm).extBut k3.extBut ap.TOi2.symm
    have r2' := ((r2.extBut k1.extBut ap.l2z).extBut k2.extBut ap.l2i1).extBut k3.extBut ap.l2TO
    refine wpAny_bind (RZ.nextOf_tuple_end cold f2' r2' none2 fun g4 x k4 ⟨ox, gx, cx⟩ => ?_)
    have iq4 : IsZip g4 q ti tu .ellipsis := k4 _ _ ap.i2z.symm (k3.extBut _ _ ap.TOz.symm (k2.extBut _ _ ap.i1z.symm iq1))
    have nx : x ≠ q := fun e => by
      subst e
      rw [iq4] at gx
      cases gx
      simp at cx
    exact wpAny_setField_rec iq4 (by simp) fun g5 _ k5 => fin g5 x (fun c o n1 n2 n3 n4 e => k5.extBut _ _ n1 (k4 _ _ n4 (k3.extBut _ _ n2 (k2.extBut _ _ n3 (k1.extBut _ _ n1 e))))) ⟨ox, k5.extBut _ _ nx gx, cx⟩
theorem mix_stop {q ti tu j1 j2 m1 m2 : Addr} {us ws : Array Value} {o1 o2 : Value} {Q : Option Value → Shared → Prop} (cold : A.handled = none) (ap : ZipApart q ti tu j1 j2 m1 m2)
    (iq : IsZip s.heap q ti tu .none) (iti : IsPair s.heap ti (.ref j1) (.ref j2)) (itu : IsPair s.heap tu o1 o2) (f1 : s.heap.IsListIter j1 m1 0) (f2 : s.heap.IsTupleIter j2 m2 0)
    (r1 : s.heap.IsList m1 us) (r2 : s.heap.IsTuple m2 ws) (none2 : ws[0]? = none)
    (fin : ∀ g, (∀ c o, c ≠ q → c ≠ tu → c ≠ j1 → c ≠ j2 → s.heap.get? c = some o → g.get? c = some o) → Q none { s with heap := g }) : wpAny (model P w) A (pyNext (.ref q)) Q E s := by
  have ty : s.TypeIs (.ref q) "zip" := ⟨_, iq, rfl⟩
  unfold pyNext
  refine wpAny_bind (wpAny_attempt (wpAny_callSpecial?_slot (name := Str.ofString "__next__") ty F.slot_zip_next (wpAny_call_entry F.slot_zip_next ty F.entry_zip_next (mix_ends cold ap iq iti itu f1 f2 r1 r2 none2 fun g x k ⟨o, go, co⟩ => ?_) (F.args_zip_next_1 _))))
  exact wpAny_bind (wpAny_isInstance (T := "StopIteration") (b := true) ⟨o, go, co⟩ isSubtype_stop (wpAny_pure (fin _ k)))
end
abbrev mixA (h : Heap) (m1 : Addr) : Heap := h.push { cls := .type "list_iterator", data := .fields #[.ref m1, .int 0 0] }
abbrev mixB (h : Heap) (m1 m2 : Addr) : Heap := (mixA h m1).push { cls := .type "tuple_iterator", data := .fields #[.ref m2, .int 0 0] }
abbrev mixC (h : Heap) (m1 m2 : Addr) : Heap := (mixB h m1 m2).push { cls := .type "tuple", data := .seq #[.ref h.objs.size, .ref (mixA h m1).objs.size] }
abbrev mixD (h : Heap) (m1 m2 : Addr) : Heap := (mixC h m1 m2).push { cls := .type "tuple", data := .seq #[.none, .none] }
abbrev mixE (h : Heap) (m1 m2 : Addr) : Heap := (mixD h m1 m2).push { cls := .type "zip", data := .fields #[.none, .bool false, .bool false, .ref (mixB h m1 m2).objs.size, .ref (mixC h m1 m2).objs.size] }
theorem mix_new (m1 m2 : Addr) (us ws : Array Value) : Meets (Builtin.«zip.__new__» ⟨[.type "zip", .ref m1, .ref m2], []⟩) (fun _ R s => s.heap.IsList m1 us ∧ s.heap.IsTuple m2 ws ∧ R (.ok (.ret (.ref (mixD s.heap m1 m2).objs.size))) { s with heap := mixE s.heap m1 m2 }) :=
  .of_wp fun P w A R s r => by
    obtain ⟨hp, gs, dr, tk, os⟩ := s
    obtain ⟨r1, r2, r⟩ := r
    have hsub := sub_zip
    have R1 : Heap.IsList (Shared.heap ⟨hp, gs, dr, tk, os⟩) m1 us := r1
    have R2 : Heap.IsTuple (Shared.heap ⟨hp.push { cls := .type "list_iterator", data := .fields #[.ref m1, .int 0 0] }, gs, dr, tk, os⟩) m2 ws := Heap.IsTuple.push r2 _
    wp_walk using wpAny_pyIter_list R1, wpAny_pyIter_tuple R2
    exact ⟨_, rfl, r⟩
section
variable {P : Program} {w : World} {A : Around} {E : Value → Shared → Prop} {s : Shared}
theorem mix_call {m1 m2 : Addr} {us ws : Array Value} {Q : Value → Shared → Prop} (r1 : s.heap.IsList m1 us) (r2 : s.heap.IsTuple m2 ws)
    (k : ∀ g, IsZip g (s.heap.objs.size + 4) (s.heap.objs.size + 2) (s.heap.objs.size + 3) .none → IsPair g (s.heap.objs.size + 2) (.ref s.heap.objs.size) (.ref (s.heap.objs.size + 1)) → IsPair g (s.heap.objs.size + 3) .none .none →
      g.IsListIter s.heap.objs.size m1 0 → g.IsTupleIter (s.heap.objs.size + 1) m2 0 → (∀ c o, s.heap.get? c = some o → g.get? c = some o) → Q (.ref (s.heap.objs.size + 4)) { s with heap := g }) :
    wpAny (model P w) A (call (.type "zip") [.ref m1, .ref m2]) Q E s := by
  refine callType_new F.called_zip (by decide) (F.typeCall_zip_2 _ _) (F.newCall_zip_2 _ _) (fun obj => F.args_object_init_3 obj _ _) F.entry_zip_new (mix_new m1 m2 us ws) ⟨r1, r2, ?_⟩
  have a1 : (mixA s.heap m1).objs.size = s.heap.objs.size + 1 := Heap.size_push ..
  have a2 : (mixB s.heap m1 m2).objs.size = s.heap.objs.size + 2 := by rw [Heap.size_push, a1]
  have a3 : (mixC s.heap m1 m2).objs.size = s.heap.objs.size + 3 := by rw [Heap.size_push, a2]
  have a4 : (mixD s.heap m1 m2).objs.size = s.heap.objs.size + 4 := by rw [Heap.size_push, a3]
  have b5 : (mixE s.heap m1 m2).get? (mixD s.heap m1 m2).objs.size = some _ := Heap.get?_push_size _ rfl
  have b4 : (mixE s.heap m1 m2).get? (mixC s.heap m1 m2).objs.size = some _ := Heap.get?_push_of_some _ (Heap.get?_push_size _ rfl)
  have b3 : (mixE s.heap m1 m2).get? (mixB s.heap m1 m2).objs.size = some _ := Heap.get?_push_of_some _ (Heap.get?_push_of_some _ (Heap.get?_push_size _ rfl))
  have b2 : (mixE s.heap m1 m2).get? (mixA s.heap m1).objs.size = some _ := Heap.get?_push_of_some _ (Heap.get?_push_of_some _ (Heap.get?_push_of_some _ (Heap.get?_push_size _ rfl)))
  have b1 : (mixE s.heap m1 m2).get? s.heap.objs.size = some _ := Heap.get?_push_of_some _ (Heap.get?_push_of_some _ (Heap.get?_push_of_some _ (Heap.get?_push_of_some _ (Heap.get?_push_size _ rfl))))
  show _ ∧ _
  rw [a2, a3, a4] at b5
  rw [a1, a2] at b3
  rw [a3] at b4
  rw [a1] at b2
  rw [a4]
  exact ⟨⟨_, b5, rfl⟩, k _ b5 b3 b4 ⟨_, b1, rfl, rfl⟩ ⟨_, b2, rfl, rfl⟩ fun c o e => Heap.get?_push_of_some _ (Heap.get?_push_of_some _ (Heap.get?_push_of_some _ (Heap.get?_push_of_some _ (Heap.get?_push_of_some _ e))))⟩
end
/-- no turn at all -/
def ItM (K : PySem.W.Frag) (a b : Addr) : It := ⟨fun _ _ => False, fun _ _ _ _ => False, fun i H => i = 0 ∧ (∃ xs : List V, SqL K H a xs) ∧ SqT K H b []⟩
theorem turn_mix {P : Program} {w : World} {K : PySem.W.Frag} {elts : List Expr} {kk : Nat} {tpos : Pos} {a b q ti tu j1 j2 : Addr} (ap : ZipApart q ti tu j1 j2 a b) :
    Turn P w K (.Tuple elts kk tpos) (ItM K a b) [q, ti, tu, j1, j2] q (fun i h => i = 0 ∧ IsZip h q ti tu .none ∧ IsPair h ti (.ref j1) (.ref j2) ∧ (∃ x y, IsPair h tu x y) ∧ h.IsListIter j1 a 0 ∧ h.IsTupleIter j2 b 0) where
  mem := by simp
  obj := fun i h ⟨_, iq, iti, ⟨x, y, itu⟩, ⟨o1, e1, _, d1⟩, ⟨o2, e2, _, d2⟩⟩ c hc => by
    have which : c = q ∨ c = ti ∨ c = tu ∨ c = j1 ∨ c = j2 := by simpa using hc
    rcases which with rfl | rfl | rfl | rfl | rfl
    · exact ⟨_, iq, fun v z => nomatch z⟩
    · exact ⟨_, iti, fun v z => nomatch z⟩
    · exact ⟨_, itu, fun v z => nomatch z⟩
    · exact ⟨o1, e1, fun v z => by rw [d1] at z; cases z⟩
    · exact ⟨o2, e2, fun v z => by rw [d2] at z; cases z⟩
  keep := fun i h g ⟨i0, iq, iti, ⟨x, y, itu⟩, f1, f2⟩ k => ⟨i0, k q (by simp) _ iq, k ti (by simp) _ iti, ⟨x, y, k tu (by simp) _ itu⟩, f1.at fun o e => k j1 (by simp) o e, f2.at fun o e => k j2 (by simp) o e⟩
  item := fun X _ _ _ _ i pins s σ H E _ _ _ no => no.elim
  done := by
    intro X e1 e2 e3 calm i pins s σ H E I fp st stop
    subst e1 e2 e3
    obtain ⟨_, iq, iti, ⟨x0, y0, itu⟩, f1, f2⟩ := st
    obtain ⟨_, ⟨xs, hx⟩, hy⟩ := stop
    obtain ⟨its, rv, p, _⟩ := I.list hx
    obtain ⟨its2, rv2, p2, _⟩ := I.tuple hy
    have l2 := rv2.length
    refine mix_stop (I.ok.hd calm) ap iq iti itu f1 f2 p.isList p2 (by simp at l2; simp [l2]) fun g k => ⟨rfl, I.turnedL (t' := s.toks) (ch := [q, ti, tu, j1, j2]) (fun c o out e => k c o (fun z => out (by simp [z])) (fun z => out (by simp [z])) (fun z => out (by simp [z])) (fun z => out (by simp [z])) e) fp⟩
  self := fun A i s Q E st h => wpAny_pyIter_zip st.2.1 h
def iZipM (K : PySem.W.Frag) (ta : TA) : TI := fun σ H R => ta σ H fun vs H1 => ∃ a b xs, vs = [.ref a, .ref b] ∧ SqL K H1 a xs ∧ SqT K H1 b [] ∧ R (ItM K a b) H1
theorem pi_zipM {X : Cx} {e e2 : Expr} {ta : TA} {p pos tpos : Pos} {elts : List Expr} {kk : Nat} (hg : Gl X "zip") (hm : X.mg "zip" = none) (ha : PA X [e, e2] ta)
    (star : starEach [e, e2] X.env = (false, eval e X.env) :: starEach [e2] X.env := by rfl) (plain : (backTo pos (starEach [e2] X.env)).any (·.1) = false := by rfl) :
    PI X (.Tuple elts kk tpos) (.Call (.Name "zip" p) [e, e2] [] pos) (iZipM X.K ta) := by
  refine ⟨fun pins s σ H R I h => ?_⟩
  refine Call_ (ld_blt I hg hm PyProof.Rows.boot_zip (PyProof.Rows.callWith_type1 (thn (ha.run pos pins s σ H _ I h) fun us s1 ⟨vs, H1, I1, r1, q1⟩ => ?_) star plain))
  obtain ⟨a, b, xs, ex, hx, hy, q1⟩ := q1
  subst ex
  cases r1 with
  | cons ra rr =>
    cases rr with
    | cons rb rr =>
      cases rr
      cases ra
      cases rb
      have five : ∀ c, c ∈ [s1.heap.objs.size + 4, s1.heap.objs.size + 2, s1.heap.objs.size + 3, s1.heap.objs.size, s1.heap.objs.size + 1] → FpOk X pins H1 c := fun c hc => by
        have le : s1.heap.objs.size ≤ c := by
          simp only [List.mem_cons, List.not_mem_nil, or_false] at hc
          rcases hc with rfl | rfl | rfl | rfl | rfl <;> first | exact Nat.le_refl _ | exact Nat.le_add_right _ _
        exact I1.fpOk le (I1.hok.fresh le)
      obtain ⟨its, rv, p1, _⟩ := I1.list hx
      obtain ⟨its2, rv2, p2, _⟩ := I1.tuple hy
      obtain ⟨o2, g2, _⟩ := id p2
      refine mix_call p1.isList (show s1.heap.IsTuple b its2.toArray from p2) fun g iq iti itu f1 f2 kept => wpAny_pyIter_zip iq ?_
      have I2 : Inv X pins σ H1 { s1 with heap := g } := I1.kept (t' := s1.toks) kept
      exact ⟨s1.heap.objs.size + 4, _, _, _, H1, rfl, I2, turn_mix (PySem.W.ktu_apart s1.heap.objs.size a b p1.lt (Heap.lt_size g2)), ⟨rfl, iq, iti, ⟨_, _, itu⟩, f1, f2⟩, five, q1⟩
/-- a loop that makes no turn -/
theorem for_none {K : PySem.W.Frag} {a b : Addr} {xs : List V} {g : TG} {tb : TS} {D : Ends} {σ : L2.St} {H : Hp} (hx : SqL K H a xs) (hy : SqT K H b []) (hd : D.nx σ H) :
    ∃ W : Nat → Nat → L2.St → Hp → Prop, (∃ m, W 0 m σ H) ∧ ∀ i m σ H, W i m σ H →
      ((ItM K a b).stop i H ∧ D.nx σ H) ∨ ((ItM K a b).go i H ∧ ∃ N : L2.St → Hp → Prop, (∀ σ' H', N σ' H' → ∃ m', m' < m ∧ W (i + 1) m' σ' H') ∧ ∀ v H', (ItM K a b).yld i H v H' → g v σ H' fun σ2 H2 => tb { D with nx := N, ct := N, bk := D.nx } σ2 H2) := by
  refine ⟨fun i m σ' H' => i = 0 ∧ σ' = σ ∧ H' = H, ⟨0, rfl, rfl, rfl⟩, ?_⟩
  rintro i m σ' H' ⟨rfl, rfl, rfl⟩
  exact .inl ⟨⟨rfl, ⟨xs, hx⟩, hy⟩, hd⟩
/-- loops over zip of two lists, or of two tuples, of any lengths -/
theorem for_zips {K : PySem.W.Frag} {a b : Addr} {xs ys : List V} {g : TG} {tb : TS} {D : Ends} {σ : L2.St} {H : Hp} (n : Nat) (hn : n = min xs.length ys.length) (Pv : Nat → L2.St → Hp → Prop) (h0 : Pv 0 σ H) (hq : ∀ i σ H, Pv i σ H → SqL K H a xs ∧ SqL K H b ys)
    (hs : ∀ (i : Nat) (x y : V) (t : Addr) (σ : L2.St) (H : Hp), xs[i]? = some x → ys[i]? = some y → Pv i σ H → H t = none → g (.ref t) σ (upd H t (.tup [x, y])) fun σ2 H2 => tb { D with nx := Pv (i + 1), ct := Pv (i + 1), bk := D.nx } σ2 H2) (hd : ∀ σ H, Pv n σ H → D.nx σ H) :
    ∃ W : Nat → Nat → L2.St → Hp → Prop, (∃ m, W 0 m σ H) ∧ ∀ i m σ H, W i m σ H →
      ((Itz K a b).stop i H ∧ D.nx σ H) ∨ ((Itz K a b).go i H ∧ ∃ N : L2.St → Hp → Prop, (∀ σ' H', N σ' H' → ∃ m', m' < m ∧ W (i + 1) m' σ' H') ∧ ∀ v H', (Itz K a b).yld i H v H' → g v σ H' fun σ2 H2 => tb { D with nx := N, ct := N, bk := D.nx } σ2 H2) := by
  refine ⟨fun i m σ H => m + i = n ∧ Pv i σ H, ⟨n, rfl, h0⟩, ?_⟩
  rintro i m σ H ⟨hi, p⟩
  obtain ⟨qx, qy⟩ := hq i σ H p
  by_cases lt : i < n
  · have ex : xs[i]? = some xs[i] := List.getElem?_eq_getElem (by omega)
    have ey : ys[i]? = some ys[i] := List.getElem?_eq_getElem (by omega)
    refine .inr ⟨⟨xs, ys, _, _, qx, qy, ex, ey⟩, Pv (i + 1), fun σ' H' p' => ⟨m - 1, by omega, by omega, p'⟩, fun v H' y => ?_⟩
    obtain ⟨t, x1, y1, rfl, ht, rfl, f1, f2⟩ := y
    exact hs i x1 y1 t σ H (f1 xs qx) (f2 ys qy) p ht
  · have e : i = n := by omega
    subst e
    exact .inl ⟨⟨xs, ys, qx, qy, by omega⟩, hd σ H p⟩
theorem for_zipsT {K : PySem.W.Frag} {a b : Addr} {xs ys : List V} {g : TG} {tb : TS} {D : Ends} {σ : L2.St} {H : Hp} (n : Nat) (hn : n = min xs.length ys.length) (Pv : Nat → L2.St → Hp → Prop) (h0 : Pv 0 σ H) (hq : ∀ i σ H, Pv i σ H → SqT K H a xs ∧ SqT K H b ys)
    (hs : ∀ (i : Nat) (x y : V) (t : Addr) (σ : L2.St) (H : Hp), xs[i]? = some x → ys[i]? = some y → Pv i σ H → H t = none → g (.ref t) σ (upd H t (.tup [x, y])) fun σ2 H2 => tb { D with nx := Pv (i + 1), ct := Pv (i + 1), bk := D.nx } σ2 H2) (hd : ∀ σ H, Pv n σ H → D.nx σ H) :
    ∃ W : Nat → Nat → L2.St → Hp → Prop, (∃ m, W 0 m σ H) ∧ ∀ i m σ H, W i m σ H →
      ((ItzT K a b).stop i H ∧ D.nx σ H) ∨ ((ItzT K a b).go i H ∧ ∃ N : L2.St → Hp → Prop, (∀ σ' H', N σ' H' → ∃ m', m' < m ∧ W (i + 1) m' σ' H') ∧ ∀ v H', (ItzT K a b).yld i H v H' → g v σ H' fun σ2 H2 => tb { D with nx := N, ct := N, bk := D.nx } σ2 H2) := by
  refine ⟨fun i m σ H => m + i = n ∧ Pv i σ H, ⟨n, rfl, h0⟩, ?_⟩
  rintro i m σ H ⟨hi, p⟩
  obtain ⟨qx, qy⟩ := hq i σ H p
  by_cases lt : i < n
  · have ex : xs[i]? = some xs[i] := List.getElem?_eq_getElem (by omega)
    have ey : ys[i]? = some ys[i] := List.getElem?_eq_getElem (by omega)
    refine .inr ⟨⟨xs, ys, _, _, qx, qy, ex, ey⟩, Pv (i + 1), fun σ' H' p' => ⟨m - 1, by omega, by omega, p'⟩, fun v H' y => ?_⟩
    obtain ⟨t, x1, y1, rfl, ht, rfl, f1, f2⟩ := y
    exact hs i x1 y1 t σ H (f1 xs qx) (f2 ys qy) p ht
  · have e : i = n := by omega
    subst e
    exact .inl ⟨⟨xs, ys, qx, qy, by omega⟩, hd σ H p⟩
end NL

namespace NL
open PySem PySem.Spec PyProof.Rows L2
/-! ### a play, as a function -/
def stp (A : Ar) (l i r : Int) : Bool := match A[l.toNat]? with
  | none => false
  | some os => match os[i.toNat]? with
    | none => false
    | some o => decide (0 ≤ l) && (decide (0 ≤ i) && decide (r ∈ o))
def playA (A : Ar) : Int → List Int → List Int → List Int
  | l, i :: is, r :: rs => if stp A l i r = true then r :: playA A r is rs else []
  | _, [], _ => []
  | _, _ :: _, [] => []
theorem play_nil {A : Ar} {l : Int} : ∀ {is rs : List Int}, is = [] ∨ rs = [] → playA A l is rs = []
  | [], _, _ => by rw [playA]
  | _ :: _, [], _ => by rw [playA]
  | _ :: _, _ :: _, h => by rcases h with h | h <;> cases h
theorem play_step {A : Ar} {l i r : Int} {is rs : List Int} {j : Nat} (hi : is[j]? = some i) (hr : rs[j]? = some r) : playA A l (is.drop j) (rs.drop j) = if stp A l i r = true then r :: playA A r (is.drop (j + 1)) (rs.drop (j + 1)) else [] := by
  obtain ⟨h1, e1⟩ := List.getElem?_eq_some_iff.mp hi
  obtain ⟨h2, e2⟩ := List.getElem?_eq_some_iff.mp hr
  rw [List.drop_eq_getElem_cons h1, List.drop_eq_getElem_cons h2, playA, e1, e2]
theorem stp_out {A : Ar} {i r : Int} : stp A (-1) i r = false := by
  unfold stp
  split
  · rfl
  · split <;> rfl
theorem stp_neg {A : Ar} {l i r : Int} (h : ¬ 0 ≤ i) : stp A l i r = false := by
  unfold stp
  split
  · rfl
  · split
    · rfl
    · rw [decide_eq_false h, Bool.false_and, Bool.and_false]
theorem stp_far {A : Ar} {l i r : Int} {os : Pos'} (hl : A[l.toNat]? = some os) (h : ¬ i < os.length) : stp A l i r = false := by
  have : os[i.toNat]? = none := List.getElem?_eq_none (by omega)
  unfold stp
  rw [hl]
  simp [this]
theorem stp_at {A : Ar} {l i r : Int} {os : Pos'} {o : Opt} (hl0 : 0 ≤ l) (hl : A[l.toNat]? = some os) (hi : 0 ≤ i) (ho : os[i.toNat]? = some o) : stp A l i r = decide (r ∈ o) := by
  unfold stp
  rw [hl]
  simp [ho, hl0, hi]
theorem at_last {α : Type} {x : α} {xs : List α} : atI (xs ++ [x]) (-1) = some x := by
  unfold atI
  rw [show ixN (xs ++ [x]).length (-1) = some xs.length by
    unfold ixN
    rw [if_neg (by decide), if_pos (by rw [List.length_append, List.length_singleton]; omega), List.length_append, List.length_singleton]
    congr 1
    omega]
  simp
theorem ints_snoc (ps : List Int) (l : Int) : (ps ++ [l]).map V.int = ps.map V.int ++ [V.int l] := by
  rw [List.map_append]
  rfl
theorem same_seqT {K : PySem.W.Frag} {H H' : Hp} {a : Addr} {xs : List V} (s : Same H H') (h : SqT K H a xs) : SqT K H' a xs := by
  rcases h with (h | ⟨o, h⟩) | h
  · exact .inl (.inl (s _ _ h))
  · exact .inl (.inr ⟨o, s _ _ h⟩)
  · exact .inr h
section
variable {P : Program} {w : World} {K : PySem.W.Frag} {mg : Str → Option Value} {base : Heap}
/-! ### play_on -/
def spPlayOn (K : PySem.W.Frag) : Sp := fun vs H Q _ => ∃ (v : V) (A : Ar) (st : Int) (a b : Addr) (is rs : List Int), vs = [v, .int st, .ref a, .ref b] ∧ ArIn H A v ∧ ArG A ∧ 0 ≤ st ∧ st < A.length ∧ is.length ≤ 1000 ∧ rs.length ≤ 1000 ∧
  ((SqL K H a (is.map V.int) ∧ SqL K H b (rs.map V.int)) ∨ (SqT K H a (is.map V.int) ∧ SqT K H b (rs.map V.int)) ∨ (SqL K H a (is.map V.int) ∧ rs = [] ∧ SqT K H b [])) ∧
  ∀ p H', Same H H' → H' p = some (.tup ((st :: playA A st is rs).map V.int)) → Q (.ref p) H'
/-- what one turn needs -/
structure Plc (H : Hp) (A : Ar) (b0 : Addr) (xs : List V) (l : Int) (os : Pos') (b1 : Addr) (zs : List V) : Prop where
  t : H b0 = some (.tup xs)
  a : A[l.toNat]? = some os
  i : atI xs l = some (.ref b1)
  o : H b1 = some (.tup zs)
  e : Each (OptIn H) os zs
theorem Plc.of {H : Hp} {A : Ar} {b0 : Addr} {xs : List V} {l : Int} (t : H b0 = some (.tup xs)) (h : Each (PosIn H) A xs) (h0 : 0 ≤ l) (h1 : l < A.length) : ∃ os b1 zs, Plc H A b0 xs l os b1 zs := by
  obtain ⟨os, x, h2, h3, b1, zs, rfl, h4, h5⟩ := h.atI h0 h1
  exact ⟨os, b1, zs, t, h2, h3, h4, h5⟩
theorem ok_play_on (T : Txt K mg) : FnOk P w K mg base CX0 1 T.aplay_on T.dplay_on Pplay_on (spPlayOn K) := by
  refine T.Fplay_on.ok scplay_on (fun vs H Q E h => ?_) (fun cdv A outer s H vs Q E hr h => ?_)
  · obtain ⟨v, A, st, a, b, is, rs, rfl, _⟩ := h
    rfl
  obtain ⟨v, Ar0, st, a, b, is, rs, rfl, ⟨b0, xs, rfl, e0, hxs⟩, hG, st0, st1, hil, hrl, hkind, q⟩ := h
  -- behind the loop
  have fin : ∀ (pl : Addr) (H' : Hp), Same H H' → H' pl = some (.lst ((st :: playA Ar0 st is rs).map V.int)) → rTupOf K [.ref pl] H' Q := fun pl H' s' e' => ⟨pl, _, rfl, .inl ⟨sqd e', fun p hp => q p _ (s'.trans (same_new hp _)) upd_same⟩⟩
  rcases hkind with ⟨ha, hb⟩ | ⟨ha, hb⟩ | ⟨ha, rfl, hb⟩
  · refine ⟨_, (pss_cons (ps_set (i := 4) scplay_on.nd rfl (Or.inl rfl) (pe_lst (pa_cons (pv 1) pa_nil)))
    (pss_cons (ps_for  PassesOwn.never rfl (RZ.pi_zipA (by rfl) T.z_zip (pa_cons (pv 2) (pa_cons (pv 3) pa_nil))) (pg_tup rfl (pgs_cons (pg_name (i := 5) scplay_on.nd rfl (Or.inl rfl)) (pgs_cons (pg_name (i := 6) scplay_on.nd rfl (Or.inl rfl)) pgs_nil)))
    (pss_cons (ps_set (i := 7) scplay_on.nd rfl (Or.inl rfl) (pe_ix ix_tup (pv 0) (pe_ix ix_list (pv 4) (pe_un un_neg pe_int) (fun _ _ => rfl)) (fun _ _ => rfl)))
    (pss_cons (ps_if (PW.pt (pw_or (pt_not (pt_chain op_le op_lt pe_int (pv 5) (pe_callB call_len_seq (by rfl) T.z_len PySem.boot_len (pa_cons (pv 7) pa_nil)))) (pw_or1 (pt_cmpR op_notIn_seq (pv 6) (pe_ix ix_tup (pv 7) (pv 5) (fun _ _ => rfl)) (by rfl)))))
    (pss_one ps_break)
    pss_nil)
    (pss_cons (ps_expr (pe_bm PySem.F.plainAttrs_list PySem.F.slot_list_append PySem.F.type_list_append mt_append (pv 4) (pa_cons (pv 6) pa_nil)))
    (pss_one (ps_if (pt_cmpR op_eq (pv 6) (pe_un un_neg pe_int) (nomark _))
    (pss_one ps_break)
    pss_nil))))))
    (pss_one (ps_ret (pe_callTy call_tuple_of (by rfl) T.z_tuple (by decide +kernel) (pa_cons (pv 4) pa_nil)))))), ?_⟩
    refine ⟨_, rfl, Nat.le_of_ble_eq_true rfl, fun pl hpl => ?_⟩
    obtain ⟨H1, e1, s1, k1⟩ := newH hpl (.lst [.int st])
    rw [e1]
    refine ⟨_, rfl, _, rfl, a, b, _, _, rfl, .inl ⟨s1.seq ha, s1.seq hb, ?_⟩⟩
    refine for_zips (xs := is.map V.int) (ys := rs.map V.int) (min is.length rs.length) (by rw [List.length_map, List.length_map]) (fun (j : Nat) (σ : L2.St) (H' : Hp) => ∃ (ps : List Int) (l : Int) (y5 y6 y7 : Option V), σ = [some (.ref b0), some (.int st), some (.ref a), some (.ref b), some (.ref pl), y5, y6, y7] ∧ Same H H' ∧ H' pl = some (.lst ((ps ++ [l]).map V.int)) ∧ ps.length ≤ j ∧ 0 ≤ l ∧ l < Ar0.length ∧ st :: playA Ar0 st is rs = ps ++ [l] ++ playA Ar0 l (is.drop j) (rs.drop j)) ?_ ?_ ?_ ?_
    · exact ⟨[], st, none, none, none, rfl, s1, k1, Nat.le_refl 0, st0, st1, by rw [List.drop_zero, List.drop_zero]; rfl⟩
    · rintro j σ H' ⟨ps, l, y5, y6, y7, rfl, s2, _⟩
      exact ⟨s2.seq ha, s2.seq hb⟩
    · rintro j x y t σ H2 hx hy ⟨ps, l, y5, y6, y7, rfl, s2, k2, hps, l0, l1, htot⟩ ht
      rw [List.getElem?_map] at hx hy
      obtain ⟨i, hi, rfl⟩ := Option.map_eq_some_iff.mp hx
      obtain ⟨r, hr', rfl⟩ := Option.map_eq_some_iff.mp hy
      have hj := (List.getElem?_eq_some_iff.mp hi).1
      rw [play_step hi hr'] at htot
      obtain ⟨H3, e3, s3, k3⟩ := newH ht (.tup [V.int i, V.int r])
      rw [e3]
      have s23 := s2.trans s3
      have tp3 : Tp H H3 := Tp.same s23
      obtain ⟨os, b1, zs, hP⟩ := Plc.of (tp3 _ _ e0) (hxs.mono fun o x => PosIn.tp tp3) l0 l1
      have k23 := s3 _ _ k2
      rw [ints_snoc] at k23
      refine ⟨t, _, rfl, sqt k3, rfl, _, _, rfl, _, _, rfl, rfl, ?_⟩
      refine ⟨_, rfl, _, rfl, _, rfl, pl, _, _, _, rfl, rfl, sqd k23, at_last, b0, _, _, _, rfl, rfl, sqt hP.t, hP.i, ?_⟩
      have brk : stp Ar0 l i r = false → st :: playA Ar0 st is rs = ps ++ [l] := fun h => by
        rw [htot, if_neg (by rw [h]; exact Bool.false_ne_true), List.append_nil]
      have out : stp Ar0 l i r = false → H3 pl = some (.lst ((st :: playA Ar0 st is rs).map V.int)) := fun h => by
        rw [brk h, ints_snoc]
        exact k23
      refine ⟨_, rfl, _, _, rfl, rfl, _, rfl, ?_⟩
      by_cases hi0 : 0 ≤ i
      · refine ifT (decide_eq_true hi0) ?_
        refine ⟨_, rfl, b1, _, rfl, .inr (sqt hP.o), _, _, rfl, rfl, _, rfl, ?_⟩
        by_cases hi1 : i < os.length
        · have hlen : i < (zs.length : Int) := by rw [hP.e.1]; exact hi1
          refine ifF (by rw [decide_eq_true hlen] <;> rfl) ?_
          obtain ⟨o, x, ho, hat, b2, rfl, e2⟩ := hP.e.atI hi0 hi1
          have hst := stp_at (r := r) l0 hP.a hi0 ho
          refine ⟨_, rfl, _, rfl, _, rfl, b1, _, _, _, rfl, rfl, sqt hP.o, hat, b2, _, rfl, .inr (sqt e2), rfl, flat_ints' o, _, rfl, ?_⟩
          by_cases hm : r ∈ o
          · refine ifF (by rw [notIn_int, decide_eq_true hm] <;> rfl) ?_
            rw [hst, decide_eq_true hm, if_pos rfl] at htot
            refine ⟨_, rfl, .inl ⟨rfl, _, sqd k23⟩, _, rfl, pl, _, _, rfl, rfl, k23, big' (by rw [List.length_append, List.length_map, List.length_singleton]; omega), ?_⟩
            have s4 : Same H (upd H3 pl (.lst (List.map V.int ps ++ [V.int l] ++ [V.int r]))) := same_put s23 hpl
            have k4 : upd H3 pl (.lst (List.map V.int ps ++ [V.int l] ++ [V.int r])) pl = some (.lst ((ps ++ [l] ++ [r]).map V.int)) := by
              rw [upd_same, ints_snoc, ints_snoc]
            have hb := ((hG.2 os (List.mem_of_getElem? hP.a)).2 o (List.mem_of_getElem? ho)).mem r hm
            refine ⟨_, rfl, _, rfl, rfl, _, rfl, ?_⟩
            refine ite2 (fun z => ?_) (fun z => ?_)
            · have hr1 : r = -1 := int_eq z
              refine ⟨_, rfl, fin pl _ s4 ?_⟩
              rw [k4, htot, hr1]
              have : playA Ar0 (-1) (is.drop (j + 1)) (rs.drop (j + 1)) = [] := by
                cases h1 : is.drop (j + 1) with
                | nil => rw [playA]
                | cons i2 ir =>
                  cases h2 : rs.drop (j + 1) with
                  | nil => rw [playA]
                  | cons r2 rr => rw [playA, stp_out, if_neg Bool.false_ne_true]
              rw [this]
            · have hr1 : r ≠ -1 := int_ne z
              exact ⟨ps ++ [l], r, _, _, _, rfl, s4, k4, by rw [List.length_append]; exact Nat.add_le_add_right hps 1, by omega, hb.2, by rw [htot]; simp⟩
          · refine ifT (by rw [notIn_int, decide_eq_false hm] <;> rfl) ?_
            rw [decide_eq_false hm] at hst
            exact ⟨_, rfl, fin pl H3 s23 (out hst)⟩
        · have hlen : ¬ i < (zs.length : Int) := by rw [hP.e.1]; exact hi1
          refine ifT (by rw [decide_eq_false hlen] <;> rfl) ?_
          refine iteT ?_
          exact ⟨_, rfl, fin pl H3 s23 (out (stp_far hP.a hi1))⟩
      · refine ifF (decide_eq_false hi0) ⟨_, rfl, ?_⟩
        refine iteT (iteT ?_)
        exact ⟨_, rfl, fin pl H3 s23 (out (stp_neg hi0))⟩
    · rintro σ H2 ⟨ps, l, y5, y6, y7, rfl, s2, k2, hps, l0, l1, htot⟩
      refine ⟨_, rfl, fin pl H2 s2 ?_⟩
      rw [k2, htot, play_nil (by
        rcases Nat.le_total is.length rs.length with h | h
        · exact .inl (List.drop_eq_nil_of_le (by omega))
        · exact .inr (List.drop_eq_nil_of_le (by omega))), List.append_nil]
  · refine ⟨_, (pss_cons (ps_set (i := 4) scplay_on.nd rfl (Or.inl rfl) (pe_lst (pa_cons (pv 1) pa_nil)))
    (pss_cons (ps_for  PassesOwn.never rfl (RZ.pi_zipA (by rfl) T.z_zip (pa_cons (pv 2) (pa_cons (pv 3) pa_nil))) (pg_tup rfl (pgs_cons (pg_name (i := 5) scplay_on.nd rfl (Or.inl rfl)) (pgs_cons (pg_name (i := 6) scplay_on.nd rfl (Or.inl rfl)) pgs_nil)))
    (pss_cons (ps_set (i := 7) scplay_on.nd rfl (Or.inl rfl) (pe_ix ix_tup (pv 0) (pe_ix ix_list (pv 4) (pe_un un_neg pe_int) (fun _ _ => rfl)) (fun _ _ => rfl)))
    (pss_cons (ps_if (PW.pt (pw_or (pt_not (pt_chain op_le op_lt pe_int (pv 5) (pe_callB call_len_seq (by rfl) T.z_len PySem.boot_len (pa_cons (pv 7) pa_nil)))) (pw_or1 (pt_cmpR op_notIn_seq (pv 6) (pe_ix ix_tup (pv 7) (pv 5) (fun _ _ => rfl)) (by rfl)))))
    (pss_one ps_break)
    pss_nil)
    (pss_cons (ps_expr (pe_bm PySem.F.plainAttrs_list PySem.F.slot_list_append PySem.F.type_list_append mt_append (pv 4) (pa_cons (pv 6) pa_nil)))
    (pss_one (ps_if (pt_cmpR op_eq (pv 6) (pe_un un_neg pe_int) (nomark _))
    (pss_one ps_break)
    pss_nil))))))
    (pss_one (ps_ret (pe_callTy call_tuple_of (by rfl) T.z_tuple (by decide +kernel) (pa_cons (pv 4) pa_nil)))))), ?_⟩
    refine ⟨_, rfl, Nat.le_of_ble_eq_true rfl, fun pl hpl => ?_⟩
    obtain ⟨H1, e1, s1, k1⟩ := newH hpl (.lst [.int st])
    rw [e1]
    refine ⟨_, rfl, _, rfl, a, b, _, _, rfl, .inr ⟨same_seqT s1 ha, same_seqT s1 hb, ?_⟩⟩
    refine for_zipsT (xs := is.map V.int) (ys := rs.map V.int) (min is.length rs.length) (by rw [List.length_map, List.length_map]) (fun (j : Nat) (σ : L2.St) (H' : Hp) => ∃ (ps : List Int) (l : Int) (y5 y6 y7 : Option V), σ = [some (.ref b0), some (.int st), some (.ref a), some (.ref b), some (.ref pl), y5, y6, y7] ∧ Same H H' ∧ H' pl = some (.lst ((ps ++ [l]).map V.int)) ∧ ps.length ≤ j ∧ 0 ≤ l ∧ l < Ar0.length ∧ st :: playA Ar0 st is rs = ps ++ [l] ++ playA Ar0 l (is.drop j) (rs.drop j)) ?_ ?_ ?_ ?_
    · exact ⟨[], st, none, none, none, rfl, s1, k1, Nat.le_refl 0, st0, st1, by rw [List.drop_zero, List.drop_zero]; rfl⟩
    · rintro j σ H' ⟨ps, l, y5, y6, y7, rfl, s2, _⟩
      exact ⟨same_seqT s2 ha, same_seqT s2 hb⟩
    · rintro j x y t σ H2 hx hy ⟨ps, l, y5, y6, y7, rfl, s2, k2, hps, l0, l1, htot⟩ ht
      rw [List.getElem?_map] at hx hy
      obtain ⟨i, hi, rfl⟩ := Option.map_eq_some_iff.mp hx
      obtain ⟨r, hr', rfl⟩ := Option.map_eq_some_iff.mp hy
      have hj := (List.getElem?_eq_some_iff.mp hi).1
      rw [play_step hi hr'] at htot
      obtain ⟨H3, e3, s3, k3⟩ := newH ht (.tup [V.int i, V.int r])
      rw [e3]
      have s23 := s2.trans s3
      have tp3 : Tp H H3 := Tp.same s23
      obtain ⟨os, b1, zs, hP⟩ := Plc.of (tp3 _ _ e0) (hxs.mono fun o x => PosIn.tp tp3) l0 l1
      have k23 := s3 _ _ k2
      rw [ints_snoc] at k23
      refine ⟨t, _, rfl, sqt k3, rfl, _, _, rfl, _, _, rfl, rfl, ?_⟩
      refine ⟨_, rfl, _, rfl, _, rfl, pl, _, _, _, rfl, rfl, sqd k23, at_last, b0, _, _, _, rfl, rfl, sqt hP.t, hP.i, ?_⟩
      have brk : stp Ar0 l i r = false → st :: playA Ar0 st is rs = ps ++ [l] := fun h => by
        rw [htot, if_neg (by rw [h]; exact Bool.false_ne_true), List.append_nil]
      have out : stp Ar0 l i r = false → H3 pl = some (.lst ((st :: playA Ar0 st is rs).map V.int)) := fun h => by
        rw [brk h, ints_snoc]
        exact k23
      refine ⟨_, rfl, _, _, rfl, rfl, _, rfl, ?_⟩
      by_cases hi0 : 0 ≤ i
      · refine ifT (decide_eq_true hi0) ?_
        refine ⟨_, rfl, b1, _, rfl, .inr (sqt hP.o), _, _, rfl, rfl, _, rfl, ?_⟩
        by_cases hi1 : i < os.length
        · have hlen : i < (zs.length : Int) := by rw [hP.e.1]; exact hi1
          refine ifF (by rw [decide_eq_true hlen] <;> rfl) ?_
          obtain ⟨o, x, ho, hat, b2, rfl, e2⟩ := hP.e.atI hi0 hi1
          have hst := stp_at (r := r) l0 hP.a hi0 ho
          refine ⟨_, rfl, _, rfl, _, rfl, b1, _, _, _, rfl, rfl, sqt hP.o, hat, b2, _, rfl, .inr (sqt e2), rfl, flat_ints' o, _, rfl, ?_⟩
          by_cases hm : r ∈ o
          · refine ifF (by rw [notIn_int, decide_eq_true hm] <;> rfl) ?_
            rw [hst, decide_eq_true hm, if_pos rfl] at htot
            refine ⟨_, rfl, .inl ⟨rfl, _, sqd k23⟩, _, rfl, pl, _, _, rfl, rfl, k23, big' (by rw [List.length_append, List.length_map, List.length_singleton]; omega), ?_⟩
            have s4 : Same H (upd H3 pl (.lst (List.map V.int ps ++ [V.int l] ++ [V.int r]))) := same_put s23 hpl
            have k4 : upd H3 pl (.lst (List.map V.int ps ++ [V.int l] ++ [V.int r])) pl = some (.lst ((ps ++ [l] ++ [r]).map V.int)) := by
              rw [upd_same, ints_snoc, ints_snoc]
            have hb := ((hG.2 os (List.mem_of_getElem? hP.a)).2 o (List.mem_of_getElem? ho)).mem r hm
            refine ⟨_, rfl, _, rfl, rfl, _, rfl, ?_⟩
            refine ite2 (fun z => ?_) (fun z => ?_)
            · have hr1 : r = -1 := int_eq z
              refine ⟨_, rfl, fin pl _ s4 ?_⟩
              rw [k4, htot, hr1]
              have : playA Ar0 (-1) (is.drop (j + 1)) (rs.drop (j + 1)) = [] := by
                cases h1 : is.drop (j + 1) with
                | nil => rw [playA]
                | cons i2 ir =>
                  cases h2 : rs.drop (j + 1) with
                  | nil => rw [playA]
                  | cons r2 rr => rw [playA, stp_out, if_neg Bool.false_ne_true]
              rw [this]
            · have hr1 : r ≠ -1 := int_ne z
              exact ⟨ps ++ [l], r, _, _, _, rfl, s4, k4, by rw [List.length_append]; exact Nat.add_le_add_right hps 1, by omega, hb.2, by rw [htot]; simp⟩
          · refine ifT (by rw [notIn_int, decide_eq_false hm] <;> rfl) ?_
            rw [decide_eq_false hm] at hst
            exact ⟨_, rfl, fin pl H3 s23 (out hst)⟩
        · have hlen : ¬ i < (zs.length : Int) := by rw [hP.e.1]; exact hi1
          refine ifT (by rw [decide_eq_false hlen] <;> rfl) ?_
          refine iteT ?_
          exact ⟨_, rfl, fin pl H3 s23 (out (stp_far hP.a hi1))⟩
      · refine ifF (decide_eq_false hi0) ⟨_, rfl, ?_⟩
        refine iteT (iteT ?_)
        exact ⟨_, rfl, fin pl H3 s23 (out (stp_neg hi0))⟩
    · rintro σ H2 ⟨ps, l, y5, y6, y7, rfl, s2, k2, hps, l0, l1, htot⟩
      refine ⟨_, rfl, fin pl H2 s2 ?_⟩
      rw [k2, htot, play_nil (by
        rcases Nat.le_total is.length rs.length with h | h
        · exact .inl (List.drop_eq_nil_of_le (by omega))
        · exact .inr (List.drop_eq_nil_of_le (by omega))), List.append_nil]
  · refine ⟨_, (pss_cons (ps_set (i := 4) scplay_on.nd rfl (Or.inl rfl) (pe_lst (pa_cons (pv 1) pa_nil)))
    (pss_cons (ps_for  PassesOwn.never rfl (pi_zipM (by rfl) T.z_zip (pa_cons (pv 2) (pa_cons (pv 3) pa_nil))) (pg_tup rfl (pgs_cons (pg_name (i := 5) scplay_on.nd rfl (Or.inl rfl)) (pgs_cons (pg_name (i := 6) scplay_on.nd rfl (Or.inl rfl)) pgs_nil)))
    (pss_cons (ps_set (i := 7) scplay_on.nd rfl (Or.inl rfl) (pe_ix ix_tup (pv 0) (pe_ix ix_list (pv 4) (pe_un un_neg pe_int) (fun _ _ => rfl)) (fun _ _ => rfl)))
    (pss_cons (ps_if (PW.pt (pw_or (pt_not (pt_chain op_le op_lt pe_int (pv 5) (pe_callB call_len_seq (by rfl) T.z_len PySem.boot_len (pa_cons (pv 7) pa_nil)))) (pw_or1 (pt_cmpR op_notIn_seq (pv 6) (pe_ix ix_tup (pv 7) (pv 5) (fun _ _ => rfl)) (by rfl)))))
    (pss_one ps_break)
    pss_nil)
    (pss_cons (ps_expr (pe_bm PySem.F.plainAttrs_list PySem.F.slot_list_append PySem.F.type_list_append mt_append (pv 4) (pa_cons (pv 6) pa_nil)))
    (pss_one (ps_if (pt_cmpR op_eq (pv 6) (pe_un un_neg pe_int) (nomark _))
    (pss_one ps_break)
    pss_nil))))))
    (pss_one (ps_ret (pe_callTy call_tuple_of (by rfl) T.z_tuple (by decide +kernel) (pa_cons (pv 4) pa_nil)))))), ?_⟩
    refine ⟨_, rfl, Nat.le_of_ble_eq_true rfl, fun pl hpl => ?_⟩
    obtain ⟨H1, e1, s1, k1⟩ := newH hpl (.lst [.int st])
    rw [e1]
    refine ⟨_, rfl, _, rfl, a, b, _, rfl, s1.seq ha, same_seqT s1 hb, ?_⟩
    refine for_none (s1.seq ha) (same_seqT s1 hb) ?_
    exact ⟨_, rfl, fin pl H1 s1 (by rw [k1, play_nil (.inr rfl)]; rfl)⟩
end
end NL

namespace NL
open PySem PySem.Spec PyProof.Rows L2
/-! ### two answers that are the same -/
def Alk : Nat → Hp → V → V → Prop
  | 0, _, _, _ => False
  | n + 1, H, u, v => (u = .non ∧ v = .non) ∨ (∃ s, u = .str s ∧ v = .str s) ∨ (∃ i, u = .int i ∧ v = .int i) ∨ ∃ a b xs ys, u = .ref a ∧ v = .ref b ∧ H a = some (.tup xs) ∧ H b = some (.tup ys) ∧ xs.length = ys.length ∧ ys.length ≤ 1000000 ∧
      ∀ (k : Nat) x y, xs[k]? = some x → ys[k]? = some y → Alk n H x y
theorem Alk.ints {H : Hp} {a b : Addr} {l : List Int} (ha : H a = some (.tup (l.map V.int))) (hb : H b = some (.tup (l.map V.int))) (hl : l.length ≤ 1000000) : Alk 2 H (.ref a) (.ref b) := by
  refine .inr (.inr (.inr ⟨a, b, _, _, rfl, rfl, ha, hb, rfl, by rw [List.length_map]; exact hl, fun k x y hx hy => ?_⟩))
  rw [hx] at hy
  cases hy
  rw [List.getElem?_map] at hx
  obtain ⟨i, _, rfl⟩ := Option.map_eq_some_iff.mp hx
  exact .inr (.inr (.inl ⟨i, rfl, rfl⟩))
section
variable {P : Program} {w : World} {K : PySem.W.Frag} {mg : Str → Option Value} {base : Heap}
def spSame (n : Nat) : Sp := fun vs H Q _ => ∃ u v : V, vs = [u, v] ∧ Alk n H u v ∧ Q (.bl true) H
theorem ok_law_same (T : Txt K mg) : ∀ n : Nat, FnOk P w K mg base CX0 (n + 1) T.a_law_same T.d_law_same P_law_same (spSame n)
  | 0 => by
    have no : ∀ vs H Q E, ¬ spSame 0 vs H Q E := fun vs H Q E ⟨u, v, _, h, _⟩ => h
    exact ⟨fun vs H Q E h => absurd h (no vs H Q E), fun A outer s H args us vs Q E _ _ _ _ h => absurd h (no vs H Q E)⟩
  | n + 1 => by
    have G_law_same := ok_law_same T n
    refine T.F_law_same.ok sc_law_same (fun vs H Q E h => ?_) (fun cdv A outer s H vs Q E hr h => ?_)
    · obtain ⟨u, v, rfl, _⟩ := h
      rfl
    obtain ⟨u, v, rfl, h, q⟩ := h
    refine ⟨_, (pss_cons (ps_if (pt_cmpR op_isN (pv 1) pe_non (nomark _))
    (pss_one (ps_ret (pe_cmpR op_isN (pv 0) pe_non (nomark _))))
    pss_nil)
    (pss_cons (ps_if (pt_val (pe_callB (call_isi) (by rfl) T.z_isinstance (by decide +kernel) (pa_cons (pv 1) (pa_cons (pe_bltn (v := .ty "str") (u := .type "str") (by rfl) T.z_str (by decide +kernel) rfl) pa_nil))))
    (pss_one (ps_ret (pe_and (pe_callB (call_isi) (by rfl) T.z_isinstance (by decide +kernel) (pa_cons (pv 0) (pa_cons (pe_bltn (v := .ty "str") (u := .type "str") (by rfl) T.z_str (by decide +kernel) rfl) pa_nil))) (pe_one (pe_cmpR op_eq (pv 0) (pv 1) (nomark _))))))
    pss_nil)
    (pss_cons (ps_if (pt_val (pe_callB (call_isi) (by rfl) T.z_isinstance (by decide +kernel) (pa_cons (pv 1) (pa_cons (pe_bltn (v := .ty "int") (u := .type "int") (by rfl) T.z_int (by decide +kernel) rfl) pa_nil))))
    (pss_one (ps_ret (pe_and (pe_callB (call_isi) (by rfl) T.z_isinstance (by decide +kernel) (pa_cons (pv 0) (pa_cons (pe_bltn (v := .ty "int") (u := .type "int") (by rfl) T.z_int (by decide +kernel) rfl) pa_nil))) (pe_and (pe_not (pe_callB (call_isi) (by rfl) T.z_isinstance (by decide +kernel) (pa_cons (pv 0) (pa_cons (pe_bltn (v := .ty "bool") (u := .type "bool") (by rfl) T.z_bool (by decide +kernel) rfl) pa_nil)))) (pe_one (pe_cmpR op_eq (pv 0) (pv 1) (nomark _)))))))
    pss_nil)
    (pss_cons (ps_if (PW.pt (pw_or (pt_not (pt_val (pe_callB (call_isi) (by rfl) T.z_isinstance (by decide +kernel) (pa_cons (pv 0) (pa_cons (pe_bltn (v := .ty "tuple") (u := .type "tuple") (by rfl) T.z_tuple (by decide +kernel) rfl) pa_nil))))) (pw_or1 (pt_cmpR op_ne (pe_callB call_len_seq (by rfl) T.z_len PySem.boot_len (pa_cons (pv 0) pa_nil)) (pe_callB call_len_seq (by rfl) T.z_len PySem.boot_len (pa_cons (pv 1) pa_nil)) (nomark _)))))
    (pss_one (ps_ret pe_bl))
    pss_nil)
    (pss_cons (ps_for  PassesOwn.never rfl (pi_range1 (by rfl) T.z_range (pa_cons (pe_callB call_len_seq (by rfl) T.z_len PySem.boot_len (pa_cons (pv 1) pa_nil)) pa_nil)) (pg_name (i := 2) sc_law_same.nd rfl (Or.inl rfl))
    (pss_one (ps_if (pt_not (pt_val (pe_call G_law_same (hr.mono (by omega)) (by rfl) T.m_law_same T.F_law_same.kp T.b_law_same .nil pass0 (pa_cons (pe_ix ix_tup (pv 0) (pv 2) (fun _ _ => rfl)) (pa_cons (pe_ix ix_tup (pv 1) (pv 2) (fun _ _ => rfl)) pa_nil)))))
    (pss_one (ps_ret pe_bl))
    pss_nil)))
    (pss_one (ps_ret pe_bl))))))), ?_⟩
    refine ⟨_, rfl, rfl, _, rfl, ?_⟩
    rcases h with ⟨rfl, rfl⟩ | ⟨s, rfl, rfl⟩ | ⟨i, rfl, rfl⟩ | ⟨a, b, xs, ys, rfl, rfl, ea, eb, hl, hz, hall⟩
    · exact ifT (decide_eq_true rfl) ⟨_, rfl, rfl, boolE (decide_eq_true rfl) q⟩
    · refine ifF (decide_eq_false (fun e => nomatch e)) ?_
      refine ⟨_, rfl, _, _, .type "str", .type "str", true, rfl, .ty "str", .base (.str _), kit_ty (by decide +kernel), true, rfl, ?_⟩
      refine iteT ⟨_, rfl, _, _, .type "str", .type "str", true, rfl, .ty "str", .base (.str _), kit_ty (by decide +kernel), true, rfl, ?_⟩
      exact iteT ⟨_, rfl, _, rfl, rfl, boolE (decide_eq_true rfl) q⟩
    · refine ifF (decide_eq_false (fun e => nomatch e)) ?_
      refine ⟨_, rfl, _, _, .type "int", .type "str", false, rfl, .ty "str", .base (.int _), kit_ty (by decide +kernel), false, rfl, ?_⟩
      refine iteF ⟨_, rfl, _, _, .type "int", .type "int", true, rfl, .ty "int", .base (.int _), kit_ty (by decide +kernel), true, rfl, ?_⟩
      refine iteT ⟨_, rfl, _, _, .type "int", .type "int", true, rfl, .ty "int", .base (.int _), kit_ty (by decide +kernel), true, rfl, ?_⟩
      refine iteT ⟨_, rfl, _, _, .type "int", .type "bool", false, rfl, .ty "bool", .base (.int _), kit_ty (by decide +kernel), false, rfl, true, rfl, ?_⟩
      exact iteT ⟨_, rfl, _, rfl, rfl, boolE (decide_eq_true rfl) q⟩
    · refine ifF (decide_eq_false (fun e => nomatch e)) ?_
      refine ⟨_, rfl, _, _, .type "tuple", .type "str", false, rfl, .ty "str", .base (.tup eb), kit_ty (by decide +kernel), false, rfl, ?_⟩
      refine iteF ⟨_, rfl, _, _, .type "tuple", .type "int", false, rfl, .ty "int", .base (.tup eb), kit_ty (by decide +kernel), false, rfl, ?_⟩
      refine iteF ⟨_, rfl, _, _, .type "tuple", .type "tuple", true, rfl, .ty "tuple", .base (.tup ea), kit_ty (by decide +kernel), true, rfl, ?_⟩
      refine iteF ?_
      refine ⟨_, rfl, a, _, rfl, .inr (sqt ea), _, rfl, b, _, rfl, .inr (sqt eb), rfl, _, rfl, ?_⟩
      refine ifF (by rw [hl, decide_eq_true rfl] <;> rfl) ?_
      refine ⟨_, rfl, b, _, rfl, .inr (sqt eb), _, rfl, by omega, by omega, for_range (lo := 0) (n := ys.length) (fun j σ H' => ∃ y : Option V, σ = [some (.ref a), some (.ref b), y] ∧ H' = H) ?_ ?_ ?_⟩
      · exact ⟨none, rfl, rfl⟩
      · rintro j σ H' hj ⟨y, rfl, rfl⟩
        have hjx : xs[j]? = some xs[j] := List.getElem?_eq_getElem (by omega)
        have hjy : ys[j]? = some ys[j] := List.getElem?_eq_getElem hj
        have e0 : (0 : Int) + (j : Int) = (j : Int) := Int.zero_add _
        refine ⟨_, rfl, _, rfl, a, _, _, _, rfl, rfl, sqt ea, by rw [e0]; exact atI_nat hjx, _, rfl, _, rfl, b, _, _, _, rfl, rfl, sqt eb, by rw [e0]; exact atI_nat hjy, ?_⟩
        refine ⟨_, _, rfl, hall j _ _ hjx hjy, true, rfl, ?_⟩
        exact iteF ⟨_, rfl, rfl⟩
      · rintro σ H' ⟨y, rfl, rfl⟩
        exact q
/-! ### _law_play -/
def spPlay (K : PySem.W.Frag) : Sp := fun vs H Q _ => ∃ (v : V) (A : Ar) (st : Int) (a b : Addr) (is rs : List Int), vs = [v, .int st, .ref a, .ref b] ∧ ArIn H A v ∧ ArG A ∧ 0 ≤ st ∧ st < A.length ∧ is.length ≤ 1000 ∧ rs.length ≤ 1000 ∧ SqL K H a (is.map V.int) ∧ SqL K H b (rs.map V.int) ∧
  ∀ p H', Same H H' → H p = none → H' p = some (.tup ((st :: playA A st is rs).map V.int)) → Q (.ref p) H'
theorem ok_law_play (T : Txt K mg) : FnOk P w K mg base CX0 1 T.a_law_play T.d_law_play P_law_play (spPlay K) := by
  refine T.F_law_play.ok sc_law_play (fun vs H Q E h => ?_) (fun cdv A outer s H vs Q E hr h => ?_)
  · obtain ⟨v, A, st, a, b, is, rs, rfl, _⟩ := h
    rfl
  obtain ⟨v, Ar0, st, a, b, is, rs, rfl, ⟨b0, xs, rfl, e0, hxs⟩, hG, st0, st1, hil, hrl, ha, hb, q⟩ := h
  have fin : ∀ (pl : Addr) (H' : Hp), Same H H' → H' pl = some (.lst ((st :: playA Ar0 st is rs).map V.int)) → rTupOf K [.ref pl] H' Q := fun pl H' s' e' => ⟨pl, _, rfl, .inl ⟨sqd e', fun p hp => q p _ (s'.trans (same_new hp _)) (s'.free hp) upd_same⟩⟩
  refine ⟨_, (pss_cons (ps_set (i := 4) sc_law_play.nd rfl (Or.inl rfl) (pe_lst (pa_cons (pv 1) pa_nil)))
    (pss_cons (ps_for  PassesOwn.never rfl (pi_range1 (by rfl) T.z_range (pa_cons (pe_callB (call_min2 rfl) (by rfl) T.z_min (by decide +kernel) (pa_cons (pe_callB call_len_seq (by rfl) T.z_len PySem.boot_len (pa_cons (pv 2) pa_nil)) (pa_cons (pe_callB call_len_seq (by rfl) T.z_len PySem.boot_len (pa_cons (pv 3) pa_nil)) pa_nil))) pa_nil)) (pg_name (i := 5) sc_law_play.nd rfl (Or.inl rfl))
    (pss_cons (ps_set (i := 6) sc_law_play.nd rfl (Or.inl rfl) (pe_ix ix_list (pv 4) (pe_un un_neg pe_int) (fun _ _ => rfl)))
    (pss_cons (ps_if (PW.pt (pw_or (pt_cmpR op_eq (pv 6) (pe_un un_neg pe_int) (nomark _)) (pw_or (pt_cmpR op_lt (pe_ix ix_list (pv 2) (pv 5) (fun _ _ => rfl)) pe_int (nomark _)) (pw_or (pt_cmpR op_ge (pe_ix ix_list (pv 2) (pv 5) (fun _ _ => rfl)) (pe_callB call_len_seq (by rfl) T.z_len PySem.boot_len (pa_cons (pe_ix ix_tup (pv 0) (pv 6) (fun _ _ => rfl)) pa_nil)) (nomark _)) (pw_or1 (pt_cmpR op_notIn_seq (pe_ix ix_list (pv 3) (pv 5) (fun _ _ => rfl)) (pe_ix ix_tup (pe_ix ix_tup (pv 0) (pv 6) (fun _ _ => rfl)) (pe_ix ix_list (pv 2) (pv 5) (fun _ _ => rfl)) (fun _ _ => rfl)) (by rfl)))))))
    (pss_one ps_break)
    pss_nil)
    (pss_one (ps_expr (pe_bm PySem.F.plainAttrs_list PySem.F.slot_list_append PySem.F.type_list_append mt_append (pv 4) (pa_cons (pe_ix ix_list (pv 3) (pv 5) (fun _ _ => rfl)) pa_nil)))))))
    (pss_one (ps_ret (pe_callTy call_tuple_of (by rfl) T.z_tuple (by decide +kernel) (pa_cons (pv 4) pa_nil)))))), ?_⟩
  refine ⟨_, rfl, Nat.le_of_ble_eq_true rfl, fun pl hpl => ?_⟩
  obtain ⟨H1, e1, s1, k1⟩ := newH hpl (.lst [.int st])
  rw [e1]
  refine ⟨_, rfl, a, _, rfl, .inl (s1.seq ha), _, rfl, b, _, rfl, .inl (s1.seq hb), _, _, rfl, ?_⟩
  obtain ⟨m, hm⟩ : ∃ m : Int, (if (((rs.map V.int).length : Nat) : Int) < (((is.map V.int).length : Nat) : Int) then (((rs.map V.int).length : Nat) : Int) else (((is.map V.int).length : Nat) : Int)) = m := ⟨_, rfl⟩
  have hm0 := congrArg (fun z : Int => [V.int z]) hm
  have hmn : m = ((min is.length rs.length : Nat) : Int) := by
    rw [List.length_map, List.length_map] at hm
    split at hm <;> omega
  refine ⟨m, hm0, by omega, by omega, for_range (lo := 0) (n := m.toNat) (fun (j : Nat) (σ : L2.St) (H' : Hp) => ∃ (ps : List Int) (l : Int) (y5 y6 : Option V), σ = [some (.ref b0), some (.int st), some (.ref a), some (.ref b), some (.ref pl), y5, y6] ∧ Same H H' ∧ H' pl = some (.lst ((ps ++ [l]).map V.int)) ∧ ps.length ≤ j ∧ -1 ≤ l ∧ l < Ar0.length ∧ st :: playA Ar0 st is rs = ps ++ [l] ++ playA Ar0 l (is.drop j) (rs.drop j)) ?_ ?_ ?_⟩
  · exact ⟨[], st, none, none, rfl, s1, k1, Nat.le_refl 0, by omega, st1, by rw [List.drop_zero, List.drop_zero]; rfl⟩
  · rintro j σ H2 hj ⟨ps, l, y5, y6, rfl, s2, k2, hps, l0, l1, htot⟩
    have hji : j < is.length := by omega
    have hjr : j < rs.length := by omega
    have hi : is[j]? = some is[j] := List.getElem?_eq_getElem hji
    have hr' : rs[j]? = some rs[j] := List.getElem?_eq_getElem hjr
    generalize is[j] = i at hi
    generalize rs[j] = r at hr'
    have ati : atI (is.map V.int) (0 + (j : Int)) = some (V.int i) := by
      rw [Int.zero_add]
      exact atI_nat (by rw [List.getElem?_map, hi]; rfl)
    have atr : atI (rs.map V.int) (0 + (j : Int)) = some (V.int r) := by
      rw [Int.zero_add]
      exact atI_nat (by rw [List.getElem?_map, hr']; rfl)
    rw [play_step hi hr'] at htot
    have k23 := k2
    rw [ints_snoc] at k23
    have ha2 := s2.seq ha
    have hb2 := s2.seq hb
    have out : stp Ar0 l i r = false → H2 pl = some (.lst ((st :: playA Ar0 st is rs).map V.int)) := fun h => by
      rw [htot, if_neg (by rw [h]; exact Bool.false_ne_true), List.append_nil]
      exact k2
    refine ⟨_, rfl, _, rfl, pl, _, _, _, rfl, rfl, sqd k23, at_last, ?_⟩
    refine ⟨_, rfl, _, rfl, rfl, _, rfl, ?_⟩
    refine ite2 (fun z => ?_) (fun z => ?_)
    · have hl : l = -1 := int_eq z
      refine iteT ⟨_, rfl, fin pl H2 s2 (out (by rw [hl]; exact stp_out))⟩
    have hl : l ≠ -1 := int_ne z
    have hl0 : 0 ≤ l := by omega
    obtain ⟨os, b1, zs, hP⟩ := Plc.of (s2 _ _ e0) (hxs.mono fun o x => PosIn.tp (Tp.same s2)) hl0 l1
    refine ⟨_, rfl, _, rfl, a, _, _, _, rfl, rfl, ha2, ati, _, _, rfl, rfl, _, rfl, ?_⟩
    by_cases hi0 : 0 ≤ i
    case neg =>
      refine ifT (decide_eq_true (by omega)) (iteT ⟨_, rfl, fin pl H2 s2 (out (stp_neg hi0))⟩)
    refine ifF (decide_eq_false (by omega)) ?_
    refine ⟨_, rfl, _, rfl, a, _, _, _, rfl, rfl, ha2, ati, _, rfl, _, rfl, b0, _, _, _, rfl, rfl, sqt hP.t, hP.i, b1, _, rfl, .inr (sqt hP.o), _, _, rfl, rfl, _, rfl, ?_⟩
    by_cases hi1 : i < os.length
    case neg =>
      refine ifT (decide_eq_true (by have := hP.e.1; omega)) (iteT ⟨_, rfl, fin pl H2 s2 (out (stp_far hP.a hi1))⟩)
    refine ifF (decide_eq_false (by have := hP.e.1; omega)) ?_
    obtain ⟨o, x, ho, hat, b2, rfl, e2⟩ := hP.e.atI hi0 hi1
    have hst := stp_at (r := r) hl0 hP.a hi0 ho
    refine ⟨_, rfl, _, rfl, b, _, _, _, rfl, rfl, hb2, atr, _, rfl, _, rfl, b0, _, _, _, rfl, rfl, sqt hP.t, hP.i, _, rfl, _, rfl, a, _, _, _, rfl, rfl, ha2, ati, b1, _, _, _, rfl, rfl, sqt hP.o, hat, b2, _, rfl, .inr (sqt e2), rfl, flat_ints' o, _, rfl, ?_⟩
    by_cases hm2 : r ∈ o
    case neg =>
      rw [decide_eq_false hm2] at hst
      refine ifT (by rw [notIn_int, decide_eq_false hm2] <;> rfl) ⟨_, rfl, fin pl H2 s2 (out hst)⟩
    refine ifF (by rw [notIn_int, decide_eq_true hm2] <;> rfl) ?_
    rw [hst, decide_eq_true hm2, if_pos rfl] at htot
    refine ⟨_, rfl, .inl ⟨rfl, _, sqd k23⟩, _, rfl, _, rfl, b, _, _, _, rfl, rfl, hb2, atr, pl, _, _, rfl, rfl, k23, big' (by rw [List.length_append, List.length_map, List.length_singleton]; omega), ?_⟩
    have hb := ((hG.2 os (List.mem_of_getElem? hP.a)).2 o (List.mem_of_getElem? ho)).mem r hm2
    exact ⟨ps ++ [l], r, _, _, rfl, same_put s2 hpl, by rw [upd_same, ints_snoc, ints_snoc], by rw [List.length_append]; exact Nat.add_le_add_right hps 1, hb.1, hb.2, by rw [htot]; simp⟩
  · rintro σ H2 ⟨ps, l, y5, y6, rfl, s2, k2, hps, l0, l1, htot⟩
    refine ⟨_, rfl, fin pl H2 s2 ?_⟩
    rw [k2, htot, play_nil (by
      rcases Nat.le_total is.length rs.length with h | h
      · exact .inl (List.drop_eq_nil_of_le (by omega))
      · exact .inr (List.drop_eq_nil_of_le (by omega))), List.append_nil]
end
end NL

namespace NL
open PySem PySem.Spec PyProof.Rows L2
theorem Plc.tp {H H' : Hp} {A : Ar} {b0 b1 : Addr} {xs zs : List V} {l : Int} {os : Pos'} (t : Tp H H') (h : Plc H A b0 xs l os b1 zs) : Plc H' A b0 xs l os b1 zs := ⟨t _ _ h.t, h.a, h.i, t _ _ h.o, h.e.mono fun o x => OptIn.tp t⟩
section
variable {P : Program} {w : World} {K : PySem.W.Frag} {mg : Str → Option Value} {base : Heap}
/-! ### _law_pick -/
def spPick (K : PySem.W.Frag) : Sp := fun vs H Q _ => ∃ (sc d : Addr) (ns : List Int) (v : V) (A : Ar) (l : Int), vs = [.ref sc, .ref d, v, .int l] ∧ Keep K d H sc (ns.map V.int) ∧ ns.length ≤ 63 ∧ Dr H d ∧ ArIn H A v ∧ ArG A ∧ 0 ≤ l ∧ l < A.length ∧
  ∀ p i r H', Go d H H' → H p = none → H' p = some (.lst ([i, r].map V.int)) → Q (.ref p) H'
theorem ok_law_pick (T : Txt K mg) : FnOk P w K mg base CX0 2 T.a_law_pick T.d_law_pick P_law_pick (spPick K) := by
  have G_law_take := ok_law_take (P := P) (w := w) (base := base) T
  refine T.F_law_pick.ok sc_law_pick (fun vs H Q E h => ?_) (fun cdv A outer s H vs Q E hr h => ?_)
  · obtain ⟨sc, d, ns, v, A, l, rfl, _⟩ := h
    rfl
  obtain ⟨sc, d, ns, v, Ar0, l, rfl, hk, hnl, hD, ⟨b0, xs, rfl, e0, hxs⟩, hG, l0, l1, q⟩ := h
  obtain ⟨os, b1, zs, hP⟩ := Plc.of e0 hxs l0 l1
  refine ⟨_, (pss_cons (ps_set (i := 4) sc_law_pick.nd rfl (Or.inl rfl) (pe_call G_law_take (hr.mono (by omega)) (by rfl) T.m_law_take T.F_law_take.kp T.b_law_take .nil pass0 (pa_cons (pv 1) (pa_cons pe_int pa_nil))))
    (pss_cons (ps_set (i := 5) sc_law_pick.nd rfl (Or.inl rfl) (pe_call G_law_take (hr.mono (by omega)) (by rfl) T.m_law_take T.F_law_take.kp T.b_law_take .nil pass0 (pa_cons (pv 1) (pa_cons (pe_callB (call_max2 rfl) (by rfl) T.z_max (by decide +kernel) (pa_cons pe_int (pa_cons (pe_callB call_len_seq (by rfl) T.z_len PySem.boot_len (pa_cons (pe_ix ix_tup (pv 2) (pv 3) (fun _ _ => rfl)) pa_nil)) pa_nil))) pa_nil))))
    (C8.pss_cut (ps_if (pt_cmpR op_eq (pv 4) pe_int (nomark _))
    (pss_one (ps_set (i := 5) sc_law_pick.nd rfl (Or.inl rfl) (pe_op op_sub (pe_op op_sub (pe_un un_neg pe_int) (pv 5)) (pe_op op_mul pe_int (pe_call G_law_take (hr.mono (by omega)) (by rfl) T.m_law_take T.F_law_take.kp T.b_law_take .nil pass0 (pa_cons (pv 1) (pa_cons pe_int pa_nil)))))))
    pss_nil)
    (C8.pss_cut (ps_if (pt_cmpR op_eq (pv 4) pe_int (nomark _))
    (pss_one (ps_set (i := 5) sc_law_pick.nd rfl (Or.inl rfl) (pe_op op_add (pe_callB call_len_seq (by rfl) T.z_len PySem.boot_len (pa_cons (pe_ix ix_tup (pv 2) (pv 3) (fun _ _ => rfl)) pa_nil)) (pe_ix ix_list (pe_lst (pa_cons pe_int (pa_cons pe_int (pa_cons (pe_op op_pow pe_int pe_int) pa_nil)))) (pe_call G_law_take (hr.mono (by omega)) (by rfl) T.m_law_take T.F_law_take.kp T.b_law_take .nil pass0 (pa_cons (pv 1) (pa_cons pe_int pa_nil))) (fun _ _ => rfl)))))
    pss_nil)
    (pss_cons (ps_set (i := 6) sc_law_pick.nd rfl (Or.inl rfl) (pe_op op_sub (pe_call G_law_take (hr.mono (by omega)) (by rfl) T.m_law_take T.F_law_take.kp T.b_law_take .nil pass0 (pa_cons (pv 1) (pa_cons (pe_op op_add (pe_callB call_len_seq (by rfl) T.z_len PySem.boot_len (pa_cons (pv 2) pa_nil)) pe_int) pa_nil))) pe_int))
    (C8.pss_cut (ps_if (PW.pt (pw_and (pt_cmpR op_gt (pv 4) pe_int (nomark _)) (pw_and1 (pt_cmpR op_gt (pe_callB call_len_seq (by rfl) T.z_len PySem.boot_len (pa_cons (pe_ix ix_tup (pv 2) (pv 3) (fun _ _ => rfl)) pa_nil)) pe_int (nomark _)))))
    (pss_one (ps_set (i := 6) sc_law_pick.nd rfl (Or.inl rfl) (pe_ifExp (pt_cmpR op_ge (pv 5) pe_int (nomark _)) (pe_ix ix_tup (pe_ix ix_tup (pe_ix ix_tup (pv 2) (pv 3) (fun _ _ => rfl)) (pv 5) (fun _ _ => rfl)) (pe_call G_law_take (hr.mono (by omega)) (by rfl) T.m_law_take T.F_law_take.kp T.b_law_take .nil pass0 (pa_cons (pv 1) (pa_cons (pe_callB call_len_seq (by rfl) T.z_len PySem.boot_len (pa_cons (pe_ix ix_tup (pe_ix ix_tup (pv 2) (pv 3) (fun _ _ => rfl)) (pv 5) (fun _ _ => rfl)) pa_nil)) pa_nil))) (fun _ _ => rfl)) (pv 6))))
    pss_nil)
    (C8.pss_cut (ps_if (PW.pt (pw_and (pt_cmpR op_eq (pv 4) pe_int (nomark _)) (pw_and1 (pt_cmpR op_gt (pe_callB call_len_seq (by rfl) T.z_len PySem.boot_len (pa_cons (pv 0) pa_nil)) pe_int (nomark _)))))
    (pss_one (ps_set (i := 6) sc_law_pick.nd rfl (Or.inl rfl) (pe_callTy call_int1 (by rfl) T.z_int (by decide +kernel) (pa_cons (pe_ix ix_list (pv 0) (pe_op op_mod (pe_callTy call_int1 (by rfl) T.z_int (by decide +kernel) (pa_cons (pv 6) pa_nil)) (pe_callB call_len_seq (by rfl) T.z_len PySem.boot_len (pa_cons (pv 0) pa_nil))) (fun _ _ => rfl)) pa_nil))))
    pss_nil)
    (pss_one (ps_ret (pe_lst (pa_cons (pv 5) (pa_cons (pv 6) pa_nil)))))))))))), ?_⟩
  refine ⟨_, rfl, d, 12, rfl, hD, by decide, fun kd H1 g1 _ _ => ?_⟩
  have hP1 := hP.tp (g1.tp hD)
  have mx : (0 : Int) < (if (((zs.length : Nat) : Int)) > 1 then ((zs.length : Nat) : Int) else 1) := by
    split <;> omega
  refine ⟨_, rfl, _, rfl, _, rfl, b0, _, _, _, rfl, rfl, sqt hP1.t, hP1.i, b1, _, rfl, .inr (sqt hP1.o), _, _, rfl, d, _, rfl, g1.dr, mx, fun u H2 g2 u0 u1 => ?_⟩
  have g12 := g1.trans g2
  have hu : 0 < zs.length → u < zs.length := fun h => by
    have u1' : u < (if (((zs.length : Nat) : Int)) > 1 then ((zs.length : Nat) : Int) else 1) := u1
    split at u1' <;> omega
  -- strange indexes
  refine ⟨fun σ H' => ∃ x : Int, σ = [some (.ref sc), some (.ref d), some (.ref b0), some (.int l), some (.int kd), some (.int x), none] ∧ Go d H H' ∧ (kd ≠ 0 → x = u), ?_, ?_⟩
  · refine ⟨_, rfl, rfl, _, rfl, ?_⟩
    refine ite2 (fun z => ?_) (fun z => ⟨u, rfl, g12, fun _ => rfl⟩)
    refine ⟨_, rfl, _, rfl, _, _, rfl, rfl, _, rfl, d, 2, rfl, g2.dr, by decide, fun w1 H3 g3 w0 w1 => ⟨_, _, rfl, rfl, .inl ⟨by decide, by decide⟩, _, _, rfl, rfl, ?_⟩⟩
    exact ⟨_, rfl, g12.trans g3, fun h => absurd (int_eq z) h⟩
  rintro σ H3 ⟨x, rfl, g13, hx⟩
  have hP3 := hP.tp (g13.tp hD)
  refine ⟨fun σ H' => ∃ x : Int, σ = [some (.ref sc), some (.ref d), some (.ref b0), some (.int l), some (.int kd), some (.int x), none] ∧ Go d H H' ∧ (2 < kd → x = u), ?_, ?_⟩
  · refine ⟨_, rfl, rfl, _, rfl, ?_⟩
    refine ite2 (fun z => ?_) (fun z => ⟨x, rfl, g13, fun h => hx (by omega)⟩)
    have hk1 : kd = 1 := int_eq z
    refine ⟨_, rfl, _, rfl, b0, _, _, _, rfl, rfl, sqt hP3.t, hP3.i, b1, _, rfl, .inr (sqt hP3.o), _, _, rfl, rfl, ⟨by decide, by decide, by decide⟩, Nat.le_of_ble_eq_true rfl, fun lp hlp => ?_⟩
    have gl := g13.trans (Go.new (o := .lst [.int 0, .int 1, .int ((10 : Int) ^ (30 : Int).toNat)]) g13.dr hlp)
    refine ⟨_, rfl, d, 3, rfl, gl.dr, by decide, fun y H4 g4 y0 y1 => ?_⟩
    obtain ⟨v3, hv3, _⟩ := atI_map (f := V.int) (xs := [0, 1, (10 : Int) ^ (30 : Int).toNat]) y0 y1
    have e4 : H4 lp = some (.lst ([0, 1, (10 : Int) ^ (30 : Int).toNat].map V.int)) := g4.fr lp _ (new_ne g13.dr hlp) upd_same
    refine ⟨lp, _, _, _, rfl, rfl, sqd e4, hv3, _, _, rfl, rfl, ?_⟩
    exact ⟨_, rfl, gl.trans g4, fun h => by omega⟩
  rintro σ H4 ⟨x, rfl, g14, hx⟩
  have hP4 := hP.tp (g14.tp hD)
  have e4 := g14.tp hD _ _ e0
  refine ⟨_, rfl, _, rfl, b0, _, rfl, .inr (sqt e4), _, _, rfl, rfl, d, _, rfl, g14.dr, by omega, fun rr H5 g5 _ _ => ⟨_, _, rfl, rfl, ?_⟩⟩
  have g15 := g14.trans g5
  have hP5 := hP.tp (g15.tp hD)
  -- the reply
  refine ⟨fun σ H' => ∃ r : Int, σ = [some (.ref sc), some (.ref d), some (.ref b0), some (.int l), some (.int kd), some (.int x), some (.int r)] ∧ Go d H H', ?_, ?_⟩
  · refine ⟨_, rfl, _, _, rfl, rfl, _, rfl, ?_⟩
    refine ite2 (fun z => ?_) (fun z => iteF ⟨_, rfl, g15⟩)
    have hk2 : 2 < kd := of_decide_eq_true z
    refine ⟨_, rfl, _, rfl, b0, _, _, _, rfl, rfl, sqt hP5.t, hP5.i, b1, _, rfl, .inr (sqt hP5.o), _, _, rfl, rfl, _, rfl, ?_⟩
    refine ite2 (fun z => ?_) (fun z => ⟨_, rfl, g15⟩)
    have hzl : 0 < zs.length := by
      have : (0 : Int) < (zs.length : Int) := of_decide_eq_true z
      omega
    have hxu := hx hk2
    subst hxu
    have hxl := hu hzl
    obtain ⟨o, y, ho, hat, b2, rfl, e2⟩ := hP5.e.atI u0 (by rw [← hP5.e.1]; exact hxl)
    have og := (hG.2 os (List.mem_of_getElem? hP5.a)).2 o (List.mem_of_getElem? ho)
    have hol : 0 < o.length := List.length_pos_iff.mpr og.ne
    refine ⟨_, rfl, _, _, rfl, rfl, _, rfl, ?_⟩
    refine ifT (decide_eq_true u0) ?_
    refine ⟨_, rfl, _, rfl, b0, _, _, _, rfl, rfl, sqt hP5.t, hP5.i, _, rfl, b1, _, _, _, rfl, rfl, sqt hP5.o, hat, _, rfl, _, rfl, _, rfl, b0, _, _, _, rfl, rfl, sqt hP5.t, hP5.i, _, rfl, b1, _, _, _, rfl, rfl, sqt hP5.o, hat, b2, _, rfl, .inr (sqt e2), d, _, rfl, g5.dr, by rw [List.length_map]; omega, fun m H6 g6 m0 m1 => ?_⟩
    obtain ⟨v3, hv3, _⟩ := atI_map (f := V.int) (xs := o) m0 (by rw [List.length_map] at m1; exact m1)
    refine ⟨b2, _, _, _, rfl, rfl, sqt (g6.tp g5.dr _ _ e2), hv3, ?_⟩
    exact ⟨_, rfl, g15.trans g6⟩
  rintro σ H6 ⟨r, rfl, g16⟩
  refine ⟨fun σ H' => ∃ r : Int, σ = [some (.ref sc), some (.ref d), some (.ref b0), some (.int l), some (.int kd), some (.int x), some (.int r)] ∧ Go d H H', ?_, ?_⟩
  · refine ⟨_, rfl, rfl, _, rfl, ?_⟩
    refine ite2 (fun z => ?_) (fun z => iteF ⟨_, rfl, g16⟩)
    have hk6 := hk.go g16
    refine ⟨_, rfl, sc, _, rfl, .inl hk6.now, _, _, rfl, rfl, _, rfl, ?_⟩
    refine ite2 (fun z => ?_) (fun z => ⟨_, rfl, g16⟩)
    have hnp : (0 : Int) < (((ns.map V.int).length : Nat) : Int) := of_decide_eq_true z
    have b0' := Int.emod_nonneg r (show (((ns.map V.int).length : Nat) : Int) ≠ 0 by omega)
    have b1' := Int.emod_lt_of_pos r hnp
    obtain ⟨v3, hv3, _⟩ := atI_map (f := V.int) (xs := ns) b0' (by rw [List.length_map] at b1'; rw [List.length_map]; exact b1')
    refine ⟨_, rfl, _, rfl, .inl ⟨_, rfl, _, rfl, sc, _, rfl, .inl hk6.now, _, _, rfl, rfl, hnp, sc, _, _, _, rfl, rfl, hk6.now, hv3, .inl ⟨_, rfl, ?_⟩⟩⟩
    exact ⟨_, rfl, g16⟩
  rintro σ H7 ⟨r, rfl, g17⟩
  refine ⟨_, rfl, _, rfl, Nat.le_of_ble_eq_true rfl, fun p hp => ?_⟩
  exact q p x r _ (g17.trans (Go.new g17.dr hp)) (g17.free hp) upd_same
end
end NL

namespace NL
open PySem PySem.Spec PyProof.Rows L2
def spLaw (K : PySem.W.Frag) : Sp := fun vs H Q _ => ∃ (a : Addr) (ns : List Int), vs = [.ref a] ∧ SqL K H a (ns.map V.int) ∧ ns.length ≤ 63 ∧ ∀ H', Q (.bl true) H'
theorem cut_ints (l : List Int) (lo hi : Option Int) : ∃ ys : List Int, cutV (l.map V.int) lo hi = ys.map V.int ∧ ys.length ≤ l.length := by
  unfold cutV
  rw [← List.map_drop, ← List.map_take]
  exact ⟨_, rfl, by rw [List.length_take, List.length_drop]; omega⟩
theorem dp_ints {K : PySem.W.Frag} {H : Hp} : ∀ l : List Int, DpAll K H (l.map V.int) (l.map PyData.int)
  | [] => .nil
  | a :: r => .cons (.int a) (dp_ints r)
theorem lay_ints : ∀ l : List Int, PyData.canLayAll0 (l.map PyData.int) = true ∧ PyData.depthAll (l.map PyData.int) = 0
  | [] => ⟨rfl, rfl⟩
  | a :: r => by
    obtain ⟨h1, h2⟩ := lay_ints r
    refine ⟨?_, ?_⟩
    · show (true && PyData.canLayAll0 (r.map PyData.int)) = true
      rw [h1]
      rfl
    · show max 0 (PyData.depthAll (r.map PyData.int)) = 0
      rw [h2]
      rfl
theorem lay_two (l m : List Int) : PyData.canLay0 (.list [.list (l.map PyData.int), .list (m.map PyData.int)]) = true ∧ PyData.depth (.list [.list (l.map PyData.int), .list (m.map PyData.int)]) ≤ 64 := by
  obtain ⟨h1, h2⟩ := lay_ints l
  obtain ⟨h3, h4⟩ := lay_ints m
  refine ⟨?_, ?_⟩
  · show (PyData.canLayAll0 (l.map PyData.int) && (PyData.canLayAll0 (m.map PyData.int) && true)) = true
    rw [h1, h3]
    rfl
  · show max (PyData.depthAll (l.map PyData.int) + 1) (max (PyData.depthAll (m.map PyData.int) + 1) 0) + 1 ≤ 64
    rw [h2, h4]
    decide
theorem two_lists {X : Cx} {K : PySem.W.Frag} {H : Hp} {p q a b c e : Addr} {is rs : List Int} {Q : VK} (hK : X.K = K) (hp : H p = some (.lst [.ref a, .ref b])) (ha : H a = some (.lst (is.map V.int))) (hb : H b = some (.lst (rs.map V.int)))
    (hq : H q = some (.lst [.ref c, .ref e])) (hc : H c = some (.lst (is.map V.int))) (he : H e = some (.lst (rs.map V.int))) (h : Q (.bl false) H) : rNeD K (.ref p) (.ref q) H Q := by
  obtain ⟨h1, h2⟩ := lay_two is rs
  have sh : SeqAt.shaped (.list [.list (is.map PyData.int), .list (rs.map PyData.int)]) = true := by
    show (PyData.canLay0 _ && decide (PyData.depth _ ≤ 64)) = true
    rw [h1, decide_eq_true h2]
    rfl
  refine ⟨_, _, .lst (sqd hp) (.cons (.lst (sqd ha) (dp_ints is)) (.cons (.lst (sqd hb) (dp_ints rs)) .nil)), .lst (sqd hq) (.cons (.lst (sqd hc) (dp_ints is)) (.cons (.lst (sqd he) (dp_ints rs)) .nil)), sh, sh, ?_⟩
  rw [SeqAt.eqv_refl _ h1]
  exact h
section
variable {P : Program} {w : World} {K : PySem.W.Frag} {mg : Str → Option Value} {base : Heap}
theorem ok_law (T : Txt K mg) : FnOk P w K mg base CX0 5 T.alaw T.dlaw Plaw (spLaw K) := by
  have G_law_draws := ok_law_draws (P := P) (w := w) (base := base) T
  have G_law_take := ok_law_take (P := P) (w := w) (base := base) T
  have G_law_arena := ok_law_arena (P := P) (w := w) (base := base) T
  have G_law_pick := ok_law_pick (P := P) (w := w) (base := base) T
  have G_law_play := ok_law_play (P := P) (w := w) (base := base) T
  have Gplay_on := ok_play_on (P := P) (w := w) (base := base) T
  have G_law_same := ok_law_same (P := P) (w := w) (base := base) T 2
  refine T.Flaw.ok sclaw (fun vs H Q E h => ?_) (fun cdv A outer s H vs Q E hr h => ?_)
  · obtain ⟨a, ns, rfl, _⟩ := h
    rfl
  obtain ⟨a, ns, rfl, hS, hl, q⟩ := h
  refine ⟨_, (pss_cons (ps_set (i := 1) sclaw.nd rfl (Or.inl rfl) (pe_call G_law_draws (hr.mono (by omega)) (by rfl) T.m_law_draws T.F_law_draws.kp T.b_law_draws .nil pass0 (pa_cons (pv 0) (pa_cons pe_int pa_nil))))
    (pss_cons (ps_set (i := 2) sclaw.nd rfl (Or.inl rfl) (pe_call G_law_arena (hr.mono (by omega)) (by rfl) T.m_law_arena T.F_law_arena.kp T.b_law_arena .nil pass0 (pa_cons (pv 1) (pa_cons pe_int pa_nil))))
    (pss_cons (ps_if (pt_cmpR op_eq (pe_callB call_len_seq (by rfl) T.z_len PySem.boot_len (pa_cons (pv 2) pa_nil)) pe_int (nomark _))
    (pss_one (ps_ret pe_bl))
    pss_nil)
    (pss_cons (ps_set (i := 3) sclaw.nd rfl (Or.inl rfl) (pe_call G_law_take (hr.mono (by omega)) (by rfl) T.m_law_take T.F_law_take.kp T.b_law_take .nil pass0 (pa_cons (pv 1) (pa_cons (pe_callB call_len_seq (by rfl) T.z_len PySem.boot_len (pa_cons (pv 2) pa_nil)) pa_nil))))
    (pss_cons (ps_set (i := 4) sclaw.nd rfl (Or.inl rfl) (pe_lst pa_nil))
    (pss_cons (ps_set (i := 5) sclaw.nd rfl (Or.inl rfl) (pe_lst pa_nil))
    (pss_cons (ps_set (i := 6) sclaw.nd rfl (Or.inl rfl) (pv 3))
    (pss_cons (ps_for  PassesOwn.never rfl (pi_range1 (by rfl) T.z_range (pa_cons (pe_ix ix_list (pe_lst (pa_cons (pe_call G_law_take (hr.mono (by omega)) (by rfl) T.m_law_take T.F_law_take.kp T.b_law_take .nil pass0 (pa_cons (pv 1) (pa_cons pe_int pa_nil))) (pa_cons pe_int pa_nil))) (pe_op op_fdiv (pe_call G_law_take (hr.mono (by omega)) (by rfl) T.m_law_take T.F_law_take.kp T.b_law_take .nil pass0 (pa_cons (pv 1) (pa_cons pe_int pa_nil))) pe_int) (fun _ _ => rfl)) pa_nil)) (pg_name (i := 7) sclaw.nd rfl (Or.inl rfl))
    (pss_cons (ps_set (i := 8) sclaw.nd rfl (Or.inl rfl) (pe_call G_law_pick (hr.mono (by omega)) (by rfl) T.m_law_pick T.F_law_pick.kp T.b_law_pick .nil pass0 (pa_cons (pv 0) (pa_cons (pv 1) (pa_cons (pv 2) (pa_cons (pv 6) pa_nil))))))
    (pss_cons (ps_expr (pe_bm PySem.F.plainAttrs_list PySem.F.slot_list_append PySem.F.type_list_append mt_append (pv 4) (pa_cons (pe_ix ix_list (pv 8) pe_int (fun _ _ => rfl)) pa_nil)))
    (pss_cons (ps_expr (pe_bm PySem.F.plainAttrs_list PySem.F.slot_list_append PySem.F.type_list_append mt_append (pv 5) (pa_cons (pe_ix ix_list (pv 8) pe_int (fun _ _ => rfl)) pa_nil)))
    (pss_one (ps_if (PW.pt (pw_and (pt_cmpR op_ge (pe_ix ix_list (pv 8) pe_int (fun _ _ => rfl)) pe_int (nomark _)) (pw_and1 (pt_cmpR op_lt (pe_ix ix_list (pv 8) pe_int (fun _ _ => rfl)) (pe_callB call_len_seq (by rfl) T.z_len PySem.boot_len (pa_cons (pv 2) pa_nil)) (nomark _)))))
    (pss_one (ps_set (i := 6) sclaw.nd rfl (Or.inl rfl) (pe_ix ix_list (pv 8) pe_int (fun _ _ => rfl))))
    pss_nil))))))
    (pss_cons (ps_set (i := 9) sclaw.nd rfl (Or.inl rfl) (pe_call G_law_take (hr.mono (by omega)) (by rfl) T.m_law_take T.F_law_take.kp T.b_law_take .nil pass0 (pa_cons (pv 1) (pa_cons pe_int pa_nil))))
    (pss_cons (ps_set (i := 5) sclaw.nd rfl (Or.inl rfl) (pe_op op_cat (pv 5) (pe_slice sl_list (pe_lst (pa_cons pe_int (pa_cons pe_int pa_nil))) po_none (po_some (pv 9)))))
    (pss_cons (ps_set (i := 10) sclaw.nd rfl (Or.inl rfl) (pe_call G_law_play (hr.mono (by omega)) (by rfl) T.m_law_play T.F_law_play.kp T.b_law_play .nil pass0 (pa_cons (pv 2) (pa_cons (pv 3) (pa_cons (pv 4) (pa_cons (pv 5) pa_nil))))))
    (pss_cons (ps_set (i := 11) sclaw.nd rfl (Or.inl rfl) (pe_lst (pa_cons (pe_callTy call_list_of (by rfl) T.z_list (by decide +kernel) (pa_cons (pv 4) pa_nil)) (pa_cons (pe_callTy call_list_of (by rfl) T.z_list (by decide +kernel) (pa_cons (pv 5) pa_nil)) pa_nil))))
    (pss_cons (ps_if (PW.pt (pw_or (pt_not (pt_val (pe_call G_law_same (hr.mono (by omega)) (by rfl) T.m_law_same T.F_law_same.kp T.b_law_same .nil pass0 (pa_cons (pe_call Gplay_on (hr.mono (by omega)) (by rfl) T.mplay_on T.Fplay_on.kp T.bplay_on .nil pass0 (pa_cons (pv 2) (pa_cons (pv 3) (pa_cons (pe_ix ix_list (pv 11) pe_int (fun _ _ => rfl)) (pa_cons (pe_ix ix_list (pv 11) pe_int (fun _ _ => rfl)) pa_nil))))) (pa_cons (pv 10) pa_nil))))) (pw_or1 (pt_cmpR (op_neD hr.units) (pv 11) (pe_lst (pa_cons (pv 4) (pa_cons (pv 5) pa_nil))) (nomark _)))))
    (pss_one (ps_ret pe_bl))
    pss_nil)
    (pss_cons (ps_if (pt_not (pt_val (pe_call G_law_same (hr.mono (by omega)) (by rfl) T.m_law_same T.F_law_same.kp T.b_law_same .nil pass0 (pa_cons (pe_call Gplay_on (hr.mono (by omega)) (by rfl) T.mplay_on T.Fplay_on.kp T.bplay_on .nil pass0 (pa_cons (pv 2) (pa_cons (pv 3) (pa_cons (pe_callTy call_tuple_of (by rfl) T.z_tuple (by decide +kernel) (pa_cons (pv 4) pa_nil)) (pa_cons (pe_callTy call_tuple_of (by rfl) T.z_tuple (by decide +kernel) (pa_cons (pv 5) pa_nil)) pa_nil))))) (pa_cons (pv 10) pa_nil)))))
    (pss_one (ps_ret pe_bl))
    pss_nil)
    (pss_cons (ps_set (i := 10) sclaw.nd rfl (Or.inl rfl) (pe_call G_law_play (hr.mono (by omega)) (by rfl) T.m_law_play T.F_law_play.kp T.b_law_play .nil pass0 (pa_cons (pv 2) (pa_cons (pv 3) (pa_cons (pe_op op_cat (pv 4) (pe_lst (pa_cons pe_int pa_nil))) (pa_cons (pe_slice sl_list (pv 5) po_none (po_some pe_int)) pa_nil))))))
    (pss_cons (ps_if (pt_not (pt_val (pe_call G_law_same (hr.mono (by omega)) (by rfl) T.m_law_same T.F_law_same.kp T.b_law_same .nil pass0 (pa_cons (pe_call Gplay_on (hr.mono (by omega)) (by rfl) T.mplay_on T.Fplay_on.kp T.bplay_on .nil pass0 (pa_cons (pv 2) (pa_cons (pv 3) (pa_cons (pe_op op_cat (pv 4) (pe_lst (pa_cons pe_int pa_nil))) (pa_cons (pe_slice sl_list (pv 5) po_none (po_some pe_int)) pa_nil))))) (pa_cons (pv 10) pa_nil)))))
    (pss_one (ps_ret pe_bl))
    pss_nil)
    (pss_cons (ps_if (pt_not (pt_val (pe_call G_law_same (hr.mono (by omega)) (by rfl) T.m_law_same T.F_law_same.kp T.b_law_same .nil pass0 (pa_cons (pe_call Gplay_on (hr.mono (by omega)) (by rfl) T.mplay_on T.Fplay_on.kp T.bplay_on .nil pass0 (pa_cons (pv 2) (pa_cons (pv 3) (pa_cons (pe_lst pa_nil) (pa_cons (pv 5) pa_nil))))) (pa_cons (pe_tup (pa_cons (pv 3) pa_nil)) pa_nil)))))
    (pss_one (ps_ret pe_bl))
    pss_nil)
    (pss_one (ps_ret (pe_call G_law_same (hr.mono (by omega)) (by rfl) T.m_law_same T.F_law_same.kp T.b_law_same .nil pass0 (pa_cons (pe_call Gplay_on (hr.mono (by omega)) (by rfl) T.mplay_on T.Fplay_on.kp T.bplay_on .nil pass0 (pa_cons (pv 2) (pa_cons (pv 3) (pa_cons (pv 4) (pa_cons (pe_tup pa_nil) pa_nil))))) (pa_cons (pe_tup (pa_cons (pv 3) pa_nil)) pa_nil)))))))))))))))))))))), ?_⟩
  refine ⟨_, rfl, a, ns, 378, rfl, hS, hl, by decide, by decide, fun d H1 s1 hd D1 => ?_⟩
  have hk := Keep.old hS hd s1
  refine ⟨_, rfl, d, 7, rfl, D1, by decide, by decide, fun v Ar0 H2 g2 hA hG => ?_⟩
  obtain ⟨b0, xs, rfl, e0, hxs⟩ := id hA
  refine ⟨_, rfl, b0, _, rfl, .inr (sqt e0), rfl, _, rfl, ?_⟩
  refine ite2 (fun z => q H2) (fun z => ?_)
  have hn := int_ne z
  have hxl := hxs.1
  refine ⟨_, rfl, _, rfl, b0, _, rfl, .inr (sqt e0), d, _, rfl, g2.dr, by omega, fun st H3 g3 st0 st1 => ?_⟩
  rw [hxl] at st1
  refine ⟨Nat.zero_le _, fun ol hol => ?_⟩
  obtain ⟨H4, e4, s4, k4⟩ := newH hol (.lst [])
  rw [e4]
  refine ⟨Nat.zero_le _, fun rl hrl => ?_⟩
  obtain ⟨H5, e5, s5, k5⟩ := newH hrl (.lst [])
  rw [e5]
  have gO := Go.same g3.dr s4
  have nol := new_ne g3.dr hol
  have nrl := new_ne gO.dr hrl
  have g35 := gO.trans (.same gO.dr s5)
  have hor : ol ≠ rl := fun e => by
    rw [← e, k4] at hrl
    cases hrl
  refine ⟨_, rfl, ?_⟩
  -- how many turns
  refine ⟨_, rfl, d, 10, rfl, g35.dr, by decide, fun u H6 g6 u0 u1 => ⟨Nat.le_of_ble_eq_true rfl, fun lq hlq => ?_⟩⟩
  have gl := g6.trans (Go.new (o := .lst [.int u, .int 40]) g6.dr hlq)
  refine ⟨_, rfl, d, 4, rfl, gl.dr, by decide, fun w1 H7 g7 w0 w1' => ?_⟩
  obtain ⟨m, hm, hmm⟩ := atI_map (f := V.int) (xs := ([u, 40] : List Int)) (i := w1 / 3) (by omega) (by show w1 / 3 < 2; omega)
  have hm40 : 0 ≤ m ∧ m ≤ 40 := by
    simp only [List.mem_cons, List.not_mem_nil, or_false] at hmm
    omega
  have elq : H7 lq = some (.lst ([u, 40].map V.int)) := g7.fr lq _ (new_ne g6.dr hlq) upd_same
  have g57 := gl.trans g7
  have g37 := g35.trans g57
  refine ⟨_, _, rfl, rfl, ⟨by decide, by decide⟩, lq, _, _, _, rfl, rfl, sqd elq, hm, m, rfl, by omega, by omega, ?_⟩
  have eol7 := g57.fr ol _ nol (s5 _ _ k4)
  have erl7 := g57.fr rl _ nrl k5
  refine for_range (lo := 0) (n := m.toNat) (fun (j : Nat) (σ : L2.St) (H' : Hp) => ∃ (is rs : List Int) (at_ : Int) (y7 y8 : Option V), σ = [some (.ref a), some (.ref d), some (.ref b0), some (.int st), some (.ref ol), some (.ref rl), some (.int at_), y7, y8, none, none, none] ∧ Go d H3 H' ∧ H' ol = some (.lst (is.map V.int)) ∧ H' rl = some (.lst (rs.map V.int)) ∧ is.length ≤ j ∧ rs.length ≤ j ∧ 0 ≤ at_ ∧ at_ < Ar0.length) ?_ ?_ ?_
  · exact ⟨[], [], st, none, none, rfl, g37, eol7, erl7, Nat.le_refl 0, Nat.le_refl 0, st0, st1⟩
  · rintro j σ H8 hj ⟨is, rs, at_, y7, y8, rfl, g8, eo, er, hil, hrl', t0, t1⟩
    have hA8 := ((hA.tp (g3.tp g2.dr)).tp (g8.tp g3.dr))
    refine ⟨_, rfl, _, rfl, _, rfl, _, rfl, a, d, ns, _, Ar0, at_, rfl, (((hk.go g2).go g3).go g8), hl, g8.dr, hA8, hG, t0, t1, fun p i r H9 g9 hp ep => ?_⟩
    have eo9 := g9.fr ol _ nol eo
    have er9 := g9.fr rl _ nrl er
    have npo : p ≠ ol := fun e => by
      rw [e, eo] at hp
      cases hp
    have npr : p ≠ rl := fun e => by
      rw [e, er] at hp
      cases hp
    refine ⟨_, rfl, .inl ⟨rfl, _, sqd eo9⟩, _, rfl, p, _, _, _, rfl, rfl, sqd ep, atI0, ol, _, _, rfl, rfl, eo9, big' (by rw [List.length_map]; omega), ?_⟩
    have g10 : Go d H3 (upd H9 ol (.lst (is.map V.int ++ [V.int i]))) := (g8.trans g9).put2 hol nol
    have eo10 : upd H9 ol (.lst (is.map V.int ++ [V.int i])) ol = some (.lst ((is ++ [i]).map V.int)) := by rw [upd_same, ints_snoc]
    have er10 : upd H9 ol (.lst (is.map V.int ++ [V.int i])) rl = some (.lst (rs.map V.int)) := by rw [upd_ne hor.symm]; exact er9
    have ep10 : upd H9 ol (.lst (is.map V.int ++ [V.int i])) p = some (.lst ([i, r].map V.int)) := by rw [upd_ne npo]; exact ep
    generalize upd H9 ol (.lst (is.map V.int ++ [V.int i])) = H10 at g10 eo10 er10 ep10 ⊢
    refine ⟨_, rfl, .inl ⟨rfl, _, sqd er10⟩, _, rfl, p, _, _, _, rfl, rfl, sqd ep10, atI1, rl, _, _, rfl, rfl, er10, big' (by rw [List.length_map]; omega), ?_⟩
    have hrl3 : H3 rl = none := s4.free hrl
    have g11 : Go d H3 (upd H10 rl (.lst (rs.map V.int ++ [V.int r]))) := g10.put2 hrl3 nrl
    have er11 : upd H10 rl (.lst (rs.map V.int ++ [V.int r])) rl = some (.lst ((rs ++ [r]).map V.int)) := by rw [upd_same, ints_snoc]
    have eo11 : upd H10 rl (.lst (rs.map V.int ++ [V.int r])) ol = some (.lst ((is ++ [i]).map V.int)) := by rw [upd_ne hor]; exact eo10
    have ep11 : upd H10 rl (.lst (rs.map V.int ++ [V.int r])) p = some (.lst ([i, r].map V.int)) := by rw [upd_ne npr]; exact ep10
    generalize upd H10 rl (.lst (rs.map V.int ++ [V.int r])) = H11 at g11 er11 eo11 ep11 ⊢
    have li : (is ++ [i]).length ≤ j + 1 := by rw [List.length_append]; exact Nat.add_le_add_right hil 1
    have lr : (rs ++ [r]).length ≤ j + 1 := by rw [List.length_append]; exact Nat.add_le_add_right hrl' 1
    have e11 := g11.tp g3.dr _ _ (g3.tp g2.dr _ _ e0)
    refine ⟨_, rfl, p, _, _, _, rfl, rfl, sqd ep11, atI1, _, _, rfl, rfl, _, rfl, ?_⟩
    refine ite2 (fun z1 => ?_) (fun z1 => iteF ⟨_, _, at_, _, _, rfl, g11, eo11, er11, li, lr, t0, t1⟩)
    refine ⟨_, rfl, p, _, _, _, rfl, rfl, sqd ep11, atI1, _, rfl, b0, _, rfl, .inr (sqt e11), _, _, rfl, rfl, _, rfl, ?_⟩
    refine ite2 (fun z2 => ?_) (fun z2 => ⟨_, _, at_, _, _, rfl, g11, eo11, er11, li, lr, t0, t1⟩)
    have r0 : 0 ≤ r := of_decide_eq_true z1
    have r1 : r < (xs.length : Int) := of_decide_eq_true z2
    exact ⟨_, rfl, p, _, _, _, rfl, rfl, sqd ep11, atI1, _, _, r, _, _, rfl, g11, eo11, er11, li, lr, r0, by omega⟩
  · rintro σ H8 ⟨is, rs, at_, y7, y8, rfl, g8, eo, er, hil, hrl', t0, t1⟩
    refine ⟨_, rfl, d, 3, rfl, g8.dr, by decide, fun ex H9 g9 x0 x1 => ?_⟩
    have g39 := g8.trans g9
    have hA9 := ((hA.tp (g3.tp g2.dr)).tp (g39.tp g3.dr))
    have eo9 := g9.fr ol _ nol eo
    have er9 := g9.fr rl _ nrl er
    -- the replies made longer
    refine ⟨_, rfl, Nat.le_of_ble_eq_true rfl, fun lz hlz => ?_⟩
    obtain ⟨Ha, ea, sa, ka⟩ := newH hlz (.lst [V.int 0, V.int 0])
    rw [ea]
    refine ⟨_, rfl, ex, rfl, lz, _, rfl, sqd ka, fun ls hls => ?_⟩
    obtain ⟨zs, ez, hzs⟩ := cut_ints [0, 0] none (some ex)
    rw [show cutV [V.int 0, V.int 0] none (some ex) = zs.map V.int from ez]
    obtain ⟨Hb, eb, sb, kb⟩ := newH hls (.lst (zs.map V.int))
    rw [eb]
    have sab := sa.trans sb
    have hz2 : zs.length ≤ 2 := hzs
    refine ⟨rl, ls, _, _, rfl, rfl, sab _ _ er9, kb, big (by rw [List.length_map, List.length_map]; omega), fun r2 hr2 => ?_⟩
    rw [← List.map_append]
    generalize hrs2 : rs ++ zs = rs2
    have hl2 : rs2.length ≤ 42 := by rw [← hrs2, List.length_append]; omega
    obtain ⟨H, eH, sH, kR⟩ := newH hr2 (.lst (rs2.map V.int))
    rw [eH]
    have s9H := sab.trans sH
    have hA0 := hA9.tp (.same s9H)
    have kO := s9H _ _ eo9
    have hisl : is.length ≤ 40 := by omega
    have lenp : ∀ (is' rs' : List Int), is'.length ≤ 1000 → (st :: playA Ar0 st is' rs').length ≤ 1000000 := fun is' rs' h => by
      have : ∀ (l : Int) (is rs : List Int), (playA Ar0 l is rs).length ≤ is.length := fun l is rs => by
        induction is generalizing l rs with
        | nil => rw [playA]; exact Nat.le_refl 0
        | cons i r ih =>
          cases rs with
          | nil => rw [playA]; exact Nat.zero_le _
          | cons r2 rr =>
            rw [playA]
            split
            · rw [List.length_cons, List.length_cons]
              exact Nat.succ_le_succ (ih _ _)
            · exact Nat.zero_le _
      have := this st is' rs'
      rw [List.length_cons]
      omega
    clear g9 g39 g8
    -- what is due
    refine ⟨_, rfl, _, rfl, _, rfl, _, rfl, _, Ar0, st, ol, r2, is, rs2, rfl, hA0, hG, st0, st1, by omega, by omega, sqd kO, sqd kR, fun dp H1' t1' hdp edp => ?_⟩
    have kO1 := t1' _ _ kO
    have kR1 := t1' _ _ kR
    refine ⟨_, rfl, ol, _, rfl, .inl (sqd kO1), fun p1 hp1 => ?_⟩
    obtain ⟨Hc, ec, sc, kc⟩ := newH hp1 (.lst (is.map V.int))
    rw [ec]
    refine ⟨_, rfl, r2, _, rfl, .inl (sqd (sc _ _ kR1)), fun p2 hp2 => ?_⟩
    obtain ⟨Hd, ed, sd, kd⟩ := newH hp2 (.lst (rs2.map V.int))
    rw [ed]
    refine ⟨Nat.le_of_ble_eq_true rfl, fun pp hpp => ?_⟩
    obtain ⟨He, ee, se, ke⟩ := newH hpp (.lst [V.ref p1, V.ref p2])
    rw [ee]
    have s1e := (sc.trans sd).trans se
    have sHe := t1'.trans s1e
    have hAe := hA0.tp (.same sHe)
    have k1e := (sd.trans se) _ _ kc
    have k2e := se _ _ kd
    have kde := s1e _ _ edp
    -- the first play
    refine ⟨_, rfl, _, rfl, _, rfl, pp, _, _, _, rfl, rfl, sqd ke, atI0, _, rfl, pp, _, _, _, rfl, rfl, sqd ke, atI1, _, Ar0, st, p1, p2, is, rs2, rfl, hAe, hG, st0, st1, by omega, by omega, .inl ⟨sqd k1e, sqd k2e⟩, fun q1 Hf sf kf => ?_⟩
    refine ⟨_, rfl, _, _, rfl, Alk.ints kf (sf _ _ kde) (lenp _ _ (by omega)), true, rfl, ?_⟩
    refine iteF ?_
    have sHf := sHe.trans sf
    refine ⟨_, rfl, _, rfl, _, rfl, Nat.le_of_ble_eq_true rfl, fun pz hpz => ?_⟩
    obtain ⟨Hg, eg, sg, kg⟩ := newH hpz (.lst [V.ref ol, V.ref r2])
    rw [eg]
    have sfg := sf.trans sg
    have sHg := sHf.trans sg
    refine two_lists (X := (cxOf CX0 P w K mg base Nlaw "law" (defScope slaw) T.alaw cdv A outer s H E).nox) rfl (sfg _ _ ke) (sfg _ _ k1e) (sfg _ _ k2e) kg (sHg _ _ kO) (sHg _ _ kR) ⟨_, rfl, ?_⟩
    refine iteF ?_
    -- with tuples
    have kOg := sHg _ _ kO
    have kRg := sHg _ _ kR
    refine ⟨_, rfl, _, rfl, _, rfl, ol, _, rfl, .inl ⟨sqd kOg, fun c1 hc1 => ?_⟩⟩
    obtain ⟨Hh, eh, sh, kh⟩ := newH hc1 (.tup (is.map V.int))
    rw [eh]
    refine ⟨_, rfl, r2, _, rfl, .inl ⟨sqd (sh _ _ kRg), fun c2 hc2 => ?_⟩⟩
    obtain ⟨Hi, ei, si, ki⟩ := newH hc2 (.tup (rs2.map V.int))
    rw [ei]
    have sHi := (sHg.trans sh).trans si
    refine ⟨_, Ar0, st, c1, c2, is, rs2, rfl, hA0.tp (.same sHi), hG, st0, st1, by omega, by omega, .inr (.inl ⟨sqt (si _ _ kh), sqt ki⟩), fun q2 Hj sj kj => ?_⟩
    have kdj := (((sfg.trans sh).trans si).trans sj) _ _ kde
    refine ⟨_, rfl, _, _, rfl, Alk.ints kj kdj (lenp _ _ (by omega)), true, rfl, ?_⟩
    refine iteF ?_
    have sHj := sHi.trans sj
    -- an option more, three replies
    refine ⟨_, rfl, _, rfl, _, rfl, Nat.le_of_ble_eq_true rfl, fun l0 hl0 => ?_⟩
    obtain ⟨Hk, ek, sk, kk⟩ := newH hl0 (.lst [V.int 0])
    rw [ek]
    refine ⟨ol, l0, _, _, rfl, rfl, (sHj.trans sk) _ _ kO, kk, big (by rw [List.length_map, List.length_singleton]; omega), fun o2 ho2 => ?_⟩
    obtain ⟨Hl, el, sl, kl⟩ := newH ho2 (.lst (is.map V.int ++ [V.int 0]))
    rw [el]
    rw [← ints_snoc] at kl
    have sHl := (sHj.trans sk).trans sl
    refine ⟨_, rfl, 3, rfl, r2, _, rfl, sqd (sHl _ _ kR), fun r3 hr3 => ?_⟩
    obtain ⟨ys, ey, hys⟩ := cut_ints rs2 none (some 3)
    rw [ey]
    obtain ⟨Hm, em, sm, km⟩ := newH hr3 (.lst (ys.map V.int))
    rw [em]
    have sHm := sHl.trans sm
    refine ⟨_, Ar0, st, o2, r3, is ++ [0], ys, rfl, hA0.tp (.same sHm), hG, st0, st1, by rw [List.length_append, List.length_singleton]; omega, by omega, sqd (sm _ _ kl), sqd km, fun dp2 Hn sn hdn kn => ?_⟩
    have sHn := sHm.trans sn
    refine ⟨_, rfl, _, rfl, _, rfl, Nat.le_of_ble_eq_true rfl, fun l0' hl0' => ?_⟩
    obtain ⟨Ho, eo', so, ko⟩ := newH hl0' (.lst [V.int 0])
    rw [eo']
    refine ⟨ol, l0', _, _, rfl, rfl, (sHn.trans so) _ _ kO, ko, big (by rw [List.length_map, List.length_singleton]; omega), fun o3 ho3 => ?_⟩
    obtain ⟨Hp', ep', sp', kp⟩ := newH ho3 (.lst (is.map V.int ++ [V.int 0]))
    rw [ep']
    rw [← ints_snoc] at kp
    have sHp := (sHn.trans so).trans sp'
    refine ⟨_, rfl, 3, rfl, r2, _, rfl, sqd (sHp _ _ kR), fun r4 hr4 => ?_⟩
    rw [ey]
    obtain ⟨Hq, eq', sq', kq⟩ := newH hr4 (.lst (ys.map V.int))
    rw [eq']
    have sHq := sHp.trans sq'
    refine ⟨_, Ar0, st, o3, r4, is ++ [0], ys, rfl, hA0.tp (.same sHq), hG, st0, st1, by rw [List.length_append, List.length_singleton]; omega, by omega, .inl ⟨sqd (sq' _ _ kp), sqd kq⟩, fun q3 Hr sr kr => ?_⟩
    have kdn := (((so.trans sp').trans sq').trans sr) _ _ kn
    refine ⟨_, rfl, _, _, rfl, Alk.ints kr kdn (lenp _ _ (by rw [List.length_append, List.length_singleton]; omega)), true, rfl, ?_⟩
    refine iteF ?_
    have sHr := sHq.trans sr
    -- no options
    refine ⟨_, rfl, _, rfl, Nat.zero_le _, fun le hle => ?_⟩
    obtain ⟨Hs, es, ss, ks⟩ := newH hle (.lst [])
    rw [es]
    have sHs := sHr.trans ss
    refine ⟨_, rfl, _, Ar0, st, le, r2, [], rs2, rfl, hA0.tp (.same sHs), hG, st0, st1, Nat.zero_le _, by omega, .inl ⟨sqd ks, sqd (sHs _ _ kR)⟩, fun q4 Ht st' kt => ?_⟩
    refine ⟨_, rfl, Nat.le_of_ble_eq_true rfl, fun tt htt => ?_⟩
    obtain ⟨Hu, eu, su, ku⟩ := newH htt (.tup [V.int st])
    rw [eu]
    rw [play_nil (.inl rfl)] at kt
    refine ⟨_, _, rfl, Alk.ints (l := [st]) (su _ _ kt) ku (by show 1 ≤ 1000000; decide), true, rfl, ?_⟩
    refine iteF ?_
    have sHu := (sHs.trans st').trans su
    -- no replies
    refine ⟨_, rfl, _, rfl, _, rfl, Nat.zero_le _, fun te hte => ?_⟩
    obtain ⟨Hv, ev, sv, kv⟩ := newH hte (.tup [])
    rw [ev]
    have sHv := sHu.trans sv
    refine ⟨_, Ar0, st, ol, te, is, [], rfl, hA0.tp (.same sHv), hG, st0, st1, by omega, Nat.zero_le _, .inr (.inr ⟨sqd (sHv _ _ kO), rfl, sqt kv⟩), fun q5 Hw sw kw => ?_⟩
    refine ⟨_, rfl, Nat.le_of_ble_eq_true rfl, fun tx htx => ?_⟩
    obtain ⟨Hx, ex', sx, kx⟩ := newH htx (.tup [V.int st])
    rw [ex']
    rw [play_nil (.inr rfl)] at kw
    exact ⟨_, _, rfl, Alk.ints (l := [st]) (sx _ _ kw) kx (by show 1 ≤ 1000000; decide), q Hx⟩
end
end NL

namespace NL
open PySem PySem.Spec PyProof.Rows L2
theorem all_mk {l : PySem.W.OpenLaw} {w : World} {K : PySem.W.Frag} {h : Heap} {mg : Str → Option Value} {fa fplay_on f_law_draws f_law_take f_law_great f_law_arena f_law_same f_law_play f_law_pick flaw : Addr} (X : K.In h) (G : h.Ns mainGlobals mg) (hfa : mg "law" = some (.ref fa))
    {odplay_on anplay_on : Option Addr} {slplay_on : Array (Option Value)} {ocplay_on kVplay_on dcplay_on pmplay_on cdplay_on ctplay_on : Value}
    {od_law_draws an_law_draws : Option Addr} {sl_law_draws : Array (Option Value)} {oc_law_draws kV_law_draws dc_law_draws pm_law_draws cd_law_draws ct_law_draws : Value}
    {od_law_take an_law_take : Option Addr} {sl_law_take : Array (Option Value)} {oc_law_take kV_law_take dc_law_take pm_law_take cd_law_take ct_law_take : Value}
    {od_law_great an_law_great : Option Addr} {sl_law_great : Array (Option Value)} {oc_law_great kV_law_great dc_law_great pm_law_great cd_law_great ct_law_great : Value}
    {od_law_arena an_law_arena : Option Addr} {sl_law_arena : Array (Option Value)} {oc_law_arena kV_law_arena dc_law_arena pm_law_arena cd_law_arena ct_law_arena : Value}
    {od_law_same an_law_same : Option Addr} {sl_law_same : Array (Option Value)} {oc_law_same kV_law_same dc_law_same pm_law_same cd_law_same ct_law_same : Value}
    {od_law_play an_law_play : Option Addr} {sl_law_play : Array (Option Value)} {oc_law_play kV_law_play dc_law_play pm_law_play cd_law_play ct_law_play : Value}
    {od_law_pick an_law_pick : Option Addr} {sl_law_pick : Array (Option Value)} {oc_law_pick kV_law_pick dc_law_pick pm_law_pick cd_law_pick ct_law_pick : Value}
    {odlaw anlaw : Option Addr} {sllaw : Array (Option Value)} {oclaw kVlaw dclaw pmlaw cdlaw ctlaw : Value}
    (aplay_on : PySem.W.nsIn K mainGlobals "play_on" = some (some (.ref fplay_on))) (lplay_on : K.lookup fplay_on = some ⟨ocplay_on, odplay_on, .func (PySem.W.fnOf "play_on" "play_on" (defArgs splay_on) (defBody splay_on) (defScope splay_on) .none kVplay_on dcplay_on pmplay_on anplay_on cdplay_on ctplay_on), slplay_on⟩) (cplay_on : PySem.W.codeIn K cdplay_on "play_on" = true) (kplay_on : PySem.W.keepIn K (.ref fplay_on) = true)
    (a_law_draws : PySem.W.nsIn K mainGlobals "_law_draws" = some (some (.ref f_law_draws))) (l_law_draws : K.lookup f_law_draws = some ⟨oc_law_draws, od_law_draws, .func (PySem.W.fnOf "_law_draws" "_law_draws" (defArgs s_law_draws) (defBody s_law_draws) (defScope s_law_draws) .none kV_law_draws dc_law_draws pm_law_draws an_law_draws cd_law_draws ct_law_draws), sl_law_draws⟩) (c_law_draws : PySem.W.codeIn K cd_law_draws "_law_draws" = true) (k_law_draws : PySem.W.keepIn K (.ref f_law_draws) = true)
    (a_law_take : PySem.W.nsIn K mainGlobals "_law_take" = some (some (.ref f_law_take))) (l_law_take : K.lookup f_law_take = some ⟨oc_law_take, od_law_take, .func (PySem.W.fnOf "_law_take" "_law_take" (defArgs s_law_take) (defBody s_law_take) (defScope s_law_take) .none kV_law_take dc_law_take pm_law_take an_law_take cd_law_take ct_law_take), sl_law_take⟩) (c_law_take : PySem.W.codeIn K cd_law_take "_law_take" = true) (k_law_take : PySem.W.keepIn K (.ref f_law_take) = true)
    (a_law_great : PySem.W.nsIn K mainGlobals "_law_great" = some (some (.ref f_law_great))) (l_law_great : K.lookup f_law_great = some ⟨oc_law_great, od_law_great, .func (PySem.W.fnOf "_law_great" "_law_great" (defArgs s_law_great) (defBody s_law_great) (defScope s_law_great) .none kV_law_great dc_law_great pm_law_great an_law_great cd_law_great ct_law_great), sl_law_great⟩) (c_law_great : PySem.W.codeIn K cd_law_great "_law_great" = true) (k_law_great : PySem.W.keepIn K (.ref f_law_great) = true)
    (a_law_arena : PySem.W.nsIn K mainGlobals "_law_arena" = some (some (.ref f_law_arena))) (l_law_arena : K.lookup f_law_arena = some ⟨oc_law_arena, od_law_arena, .func (PySem.W.fnOf "_law_arena" "_law_arena" (defArgs s_law_arena) (defBody s_law_arena) (defScope s_law_arena) .none kV_law_arena dc_law_arena pm_law_arena an_law_arena cd_law_arena ct_law_arena), sl_law_arena⟩) (c_law_arena : PySem.W.codeIn K cd_law_arena "_law_arena" = true) (k_law_arena : PySem.W.keepIn K (.ref f_law_arena) = true)
    (a_law_same : PySem.W.nsIn K mainGlobals "_law_same" = some (some (.ref f_law_same))) (l_law_same : K.lookup f_law_same = some ⟨oc_law_same, od_law_same, .func (PySem.W.fnOf "_law_same" "_law_same" (defArgs s_law_same) (defBody s_law_same) (defScope s_law_same) .none kV_law_same dc_law_same pm_law_same an_law_same cd_law_same ct_law_same), sl_law_same⟩) (c_law_same : PySem.W.codeIn K cd_law_same "_law_same" = true) (k_law_same : PySem.W.keepIn K (.ref f_law_same) = true)
    (a_law_play : PySem.W.nsIn K mainGlobals "_law_play" = some (some (.ref f_law_play))) (l_law_play : K.lookup f_law_play = some ⟨oc_law_play, od_law_play, .func (PySem.W.fnOf "_law_play" "_law_play" (defArgs s_law_play) (defBody s_law_play) (defScope s_law_play) .none kV_law_play dc_law_play pm_law_play an_law_play cd_law_play ct_law_play), sl_law_play⟩) (c_law_play : PySem.W.codeIn K cd_law_play "_law_play" = true) (k_law_play : PySem.W.keepIn K (.ref f_law_play) = true)
    (a_law_pick : PySem.W.nsIn K mainGlobals "_law_pick" = some (some (.ref f_law_pick))) (l_law_pick : K.lookup f_law_pick = some ⟨oc_law_pick, od_law_pick, .func (PySem.W.fnOf "_law_pick" "_law_pick" (defArgs s_law_pick) (defBody s_law_pick) (defScope s_law_pick) .none kV_law_pick dc_law_pick pm_law_pick an_law_pick cd_law_pick ct_law_pick), sl_law_pick⟩) (c_law_pick : PySem.W.codeIn K cd_law_pick "_law_pick" = true) (k_law_pick : PySem.W.keepIn K (.ref f_law_pick) = true)
    (alaw : PySem.W.nsIn K mainGlobals "law" = some (some (.ref flaw))) (llaw : K.lookup flaw = some ⟨oclaw, odlaw, .func (PySem.W.fnOf "law" "law" (defArgs slaw) (defBody slaw) (defScope slaw) .none kVlaw dclaw pmlaw anlaw cdlaw ctlaw), sllaw⟩) (claw : PySem.W.codeIn K cdlaw "law" = true) (klaw : PySem.W.keepIn K (.ref flaw) = true)
    (z_bool : PySem.W.nsIn K mainGlobals "bool" = some none)
    (z_int : PySem.W.nsIn K mainGlobals "int" = some none)
    (z_isinstance : PySem.W.nsIn K mainGlobals "isinstance" = some none)
    (z_len : PySem.W.nsIn K mainGlobals "len" = some none)
    (z_list : PySem.W.nsIn K mainGlobals "list" = some none)
    (z_max : PySem.W.nsIn K mainGlobals "max" = some none)
    (z_min : PySem.W.nsIn K mainGlobals "min" = some none)
    (z_range : PySem.W.nsIn K mainGlobals "range" = some none)
    (z_set : PySem.W.nsIn K mainGlobals "set" = some none)
    (z_sorted : PySem.W.nsIn K mainGlobals "sorted" = some none)
    (z_str : PySem.W.nsIn K mainGlobals "str" = some none)
    (z_tuple : PySem.W.nsIn K mainGlobals "tuple" = some none)
    (z_zip : PySem.W.nsIn K mainGlobals "zip" = some none)
    : ∃ fd : FuncData, (∀ (s : Shared) (v : Value), BindsTo s fd ⟨[v], []⟩ [("script", v)]) ∧ ∀ base : Heap, K.In base → base.Ns mainGlobals mg → FnOk l.prog w K mg base CX0 5 fa fd ["script"] (spLaw K) := by
  have e := hfa.symm.trans (PySem.W.mg_of X G alaw)
  cases e
  let T : Txt K mg := {
    z_bool := PySem.W.mg_none_of X G z_bool
    z_int := PySem.W.mg_none_of X G z_int
    z_isinstance := PySem.W.mg_none_of X G z_isinstance
    z_len := PySem.W.mg_none_of X G z_len
    z_list := PySem.W.mg_none_of X G z_list
    z_max := PySem.W.mg_none_of X G z_max
    z_min := PySem.W.mg_none_of X G z_min
    z_range := PySem.W.mg_none_of X G z_range
    z_set := PySem.W.mg_none_of X G z_set
    z_sorted := PySem.W.mg_none_of X G z_sorted
    z_str := PySem.W.mg_none_of X G z_str
    z_tuple := PySem.W.mg_none_of X G z_tuple
    z_zip := PySem.W.mg_none_of X G z_zip
    aplay_on := fplay_on
    dplay_on := _
    Fplay_on := fun_mk (st := splay_on) lplay_on cplay_on kplay_on
    mplay_on := PySem.W.mg_of X G aplay_on
    a_law_draws := f_law_draws
    d_law_draws := _
    F_law_draws := fun_mk (st := s_law_draws) l_law_draws c_law_draws k_law_draws
    m_law_draws := PySem.W.mg_of X G a_law_draws
    a_law_take := f_law_take
    d_law_take := _
    F_law_take := fun_mk (st := s_law_take) l_law_take c_law_take k_law_take
    m_law_take := PySem.W.mg_of X G a_law_take
    a_law_great := f_law_great
    d_law_great := _
    F_law_great := fun_mk (st := s_law_great) l_law_great c_law_great k_law_great
    m_law_great := PySem.W.mg_of X G a_law_great
    a_law_arena := f_law_arena
    d_law_arena := _
    F_law_arena := fun_mk (st := s_law_arena) l_law_arena c_law_arena k_law_arena
    m_law_arena := PySem.W.mg_of X G a_law_arena
    a_law_same := f_law_same
    d_law_same := _
    F_law_same := fun_mk (st := s_law_same) l_law_same c_law_same k_law_same
    m_law_same := PySem.W.mg_of X G a_law_same
    a_law_play := f_law_play
    d_law_play := _
    F_law_play := fun_mk (st := s_law_play) l_law_play c_law_play k_law_play
    m_law_play := PySem.W.mg_of X G a_law_play
    a_law_pick := f_law_pick
    d_law_pick := _
    F_law_pick := fun_mk (st := s_law_pick) l_law_pick c_law_pick k_law_pick
    m_law_pick := PySem.W.mg_of X G a_law_pick
    alaw := fa
    dlaw := _
    Flaw := fun_mk (st := slaw) llaw claw klaw
    mlaw := PySem.W.mg_of X G alaw }
  refine ⟨T.dlaw, fun s v => .of_eq rfl, fun base _ _ => ?_⟩
  exact ok_law T
end NL
open PySem PySem.W PyProof.Rows
set_option maxRecDepth 100000 in
set_option maxHeartbeats 0 in
theorem PySem.Challenge.cw_neverleaves_k66_plays_by_picks_holds : PySem.Challenge.rw_neverleaves_k66_plays_by_picks.Holds := by
  w_on; o_law; k_head; (case hw => w_witness2)
  k_fill
  refine L2.walk_of (l := PySem.Challenge.rw_neverleaves_k66_plays_by_picks) (n := 63) (k := 5) (x := "script") (CX := fun _ => L2.CX0) (sp := fun w => NL.spLaw _) rfl (by decide) rfl ⟨rfl, by decide, by decide⟩ (fun w h Y => PySem.W.kIn_of Y) ?F (fun _ _ a ns hl _ hS => ⟨a, ns, rfl, hS, hl, fun _ => rfl⟩) (fun _ _ _ _ _ h => h)
  case F =>
    intro w mg fa h KX G hmg
    refine' NL.all_mk KX G hmg ?aplay_on ?lplay_on ?cplay_on ?kplay_on ?a_law_draws ?l_law_draws ?c_law_draws ?k_law_draws ?a_law_take ?l_law_take ?c_law_take ?k_law_take ?a_law_great ?l_law_great ?c_law_great ?k_law_great ?a_law_arena ?l_law_arena ?c_law_arena ?k_law_arena ?a_law_same ?l_law_same ?c_law_same ?k_law_same ?a_law_play ?l_law_play ?c_law_play ?k_law_play ?a_law_pick ?l_law_pick ?c_law_pick ?k_law_pick ?alaw ?llaw ?claw ?klaw  ?z_bool ?z_int ?z_isinstance ?z_len ?z_list ?z_max ?z_min ?z_range ?z_set ?z_sorted ?z_str ?z_tuple ?z_zip
    (case aplay_on => k_is); (case lplay_on => k_is); (case cplay_on => k_is); (case kplay_on => k_is)
    (case a_law_draws => k_is); (case l_law_draws => k_is); (case c_law_draws => k_is); (case k_law_draws => k_is)
    (case a_law_take => k_is); (case l_law_take => k_is); (case c_law_take => k_is); (case k_law_take => k_is)
    (case a_law_great => k_is); (case l_law_great => k_is); (case c_law_great => k_is); (case k_law_great => k_is)
    (case a_law_arena => k_is); (case l_law_arena => k_is); (case c_law_arena => k_is); (case k_law_arena => k_is)
    (case a_law_same => k_is); (case l_law_same => k_is); (case c_law_same => k_is); (case k_law_same => k_is)
    (case a_law_play => k_is); (case l_law_play => k_is); (case c_law_play => k_is); (case k_law_play => k_is)
    (case a_law_pick => k_is); (case l_law_pick => k_is); (case c_law_pick => k_is); (case k_law_pick => k_is)
    (case alaw => k_is); (case llaw => k_is); (case claw => k_is); (case klaw => k_is)
    (case z_bool => k_is)
    (case z_int => k_is)
    (case z_isinstance => k_is)
    (case z_len => k_is)
    (case z_list => k_is)
    (case z_max => k_is)
    (case z_min => k_is)
    (case z_range => k_is)
    (case z_set => k_is)
    (case z_sorted => k_is)
    (case z_str => k_is)
    (case z_tuple => k_is)
    (case z_zip => k_is)
