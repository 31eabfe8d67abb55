import PyProof.Rows.All
import Wide.All
import OpenK.AllK
import Wide.FinOn
import HandS.ForMost
import HandS.IsInst
import HandS.TupLe
import HandS.Flow
import PySem.Challenge.RW_cardsback_k01_days_and_weeks
set_option Elab.async false
set_option linter.all false
set_option maxRecDepth 100000
/-! My own words for these laws: the tap, kept heaps, repr of flat things. -/
namespace My
open PySem PySem.Spec PyProof.Rows L2
/-! ### heaps -/
/-- all but t is as it was -/
def Kp (t : Addr) (H H' : Hp) : Prop := ∀ b o, b ≠ t → H b = some o → H' b = some o
theorem Kp.refl (t : Addr) (H : Hp) : Kp t H H := fun _ _ _ h => h
theorem Kp.trans {t : Addr} {H H1 H2 : Hp} (a : Kp t H H1) (b : Kp t H1 H2) : Kp t H H2 := fun c o n h => b c o n (a c o n h)
theorem Kp.own {t : Addr} {H H1 : Hp} {o : HO} (a : Kp t H H1) : Kp t H (upd H1 t o) := fun b x n h => by rw [upd_ne n]; exact a b x n h
theorem Kp.new {t p : Addr} {H H1 : Hp} {o : HO} (a : Kp t H H1) (hp : H1 p = none) : Kp t H (upd H1 p o) := fun b x n h => by
  have h1 := a b x n h
  rw [upd_ne (ne_of_none h1 hp)]
  exact h1
theorem Kp.of_same {t : Addr} {H H1 : Hp} (a : Same H H1) : Kp t H H1 := fun b o _ h => a b o h
theorem same_upd {H : Hp} {p : Addr} {o : HO} (h : H p = none) : Same H (upd H p o) := fun b x e => by
  rw [upd_ne (ne_of_none e h)]
  exact e
theorem upd_upd' {H : Hp} {p : Addr} {a b : HO} : upd (upd H p a) p b = upd H p b := by
  funext x
  unfold upd
  by_cases h : x = p <;> simp [h]
theorem upd_comm' {H : Hp} {p r : Addr} {a b : HO} (n : p ≠ r) : upd (upd H p a) r b = upd (upd H r b) p a := by
  funext x
  unfold upd
  by_cases h : x = p
  · by_cases k : x = r
    · exact absurd (h.symm.trans k) n
    · simp [h, n]
  · by_cases k : x = r
    · simp [k, n.symm]
    · simp [h, k]
theorem upd_free {H : Hp} {p x : Addr} {o : HO} (e : upd H p o x = none) : x ≠ p ∧ H x = none := by
  by_cases h : x = p
  · rw [h, upd_same] at e
    cases e
  · rw [upd_ne h] at e
    exact ⟨h, e⟩
theorem sz {n : Nat} (h : n ≤ 1000) : n ≤ sizeLine := Nat.le_of_lt (small1000 h)
theorem tYesT {σ : L2.St} {H : Hp} {A B : Hp → Prop} (h : A H) : tYes σ H (fun b H3 => if b = true then A H3 else B H3) := by
  show if true = true then A H else B H
  exact iteT h
/-! ### the tap -/
def kt (c s r n : V) : List (Key × V) := [(.inr "cells", c), (.inr "spot", s), (.inr "rest", r), (.inr "calls", n)]
theorem kt_cells (c s r n : V) : valV (kt c s r n) (.inr "cells") = some c := rfl
theorem kt_spot (c s r n : V) : valV (kt c s r n) (.inr "spot") = some s := rfl
theorem kt_rest (c s r n : V) : valV (kt c s r n) (.inr "rest") = some r := rfl
theorem kt_calls (c s r n : V) : valV (kt c s r n) (.inr "calls") = some n := rfl
theorem put_spot (c s r n v : V) : putK (kt c s r n) (.inr "spot") v = kt c v r n := rfl
theorem put_rest (c s r n v : V) : putK (kt c s r n) (.inr "rest") v = kt c s v n := rfl
theorem put_calls (c s r n v : V) : putK (kt c s r n) (.inr "calls") v = kt c s r v := rfl
theorem kt_len (c s r n : V) : (kt c s r n).length < sizeLine := small1000 (by show 4 ≤ 1000; decide)
theorem g_cells {H : Hp} {t : Addr} {c s r n : V} (h : H t = some (.dK (kt c s r n))) : DGet H t (.str "cells") (some c) := DGet.k (k := .inr "cells") h
theorem g_spot {H : Hp} {t : Addr} {c s r n : V} (h : H t = some (.dK (kt c s r n))) : DGet H t (.str "spot") (some s) := DGet.k (k := .inr "spot") h
theorem g_rest {H : Hp} {t : Addr} {c s r n : V} (h : H t = some (.dK (kt c s r n))) : DGet H t (.str "rest") (some r) := DGet.k (k := .inr "rest") h
theorem g_calls {H : Hp} {t : Addr} {c s r n : V} (h : H t = some (.dK (kt c s r n))) : DGet H t (.str "calls") (some n) := DGet.k (k := .inr "calls") h
theorem p_spot {H : Hp} {t : Addr} {c s r n v : V} (h : H t = some (.dK (kt c s r n))) : DPut H t (.str "spot") v (upd H t (.dK (kt c v r n))) := DPut.k (k := .inr "spot") h (kt_len _ _ _ _)
theorem p_rest {H : Hp} {t : Addr} {c s r n v : V} (h : H t = some (.dK (kt c s r n))) : DPut H t (.str "rest") v (upd H t (.dK (kt c s v n))) := DPut.k (k := .inr "rest") h (kt_len _ _ _ _)
theorem p_calls {H : Hp} {t : Addr} {c s r n v : V} (h : H t = some (.dK (kt c s r n))) : DPut H t (.str "calls") v (upd H t (.dK (kt c s r v))) := DPut.k (k := .inr "calls") h (kt_len _ _ _ _)
/-- a tap at t that was asked at most n times -/
def Tap (H : Hp) (t : Addr) (n : Nat) : Prop := ∃ (c : Addr) (ns : List Int) (sp re ca : Int),
  H t = some (.dK (kt (.ref c) (.int sp) (.int re) (.int ca))) ∧ H c = some (.lst (ns.map V.int)) ∧ ns.length ≤ 63 ∧ 0 ≤ sp ∧ 0 ≤ re ∧ 0 ≤ ca ∧ ca ≤ n
theorem Tap.mono {H : Hp} {t : Addr} {n m : Nat} (h : Tap H t n) (le : n ≤ m) : Tap H t m := by
  obtain ⟨c, ns, sp, re, ca, h1, h2, h3, h4, h5, h6, h7⟩ := h
  exact ⟨c, ns, sp, re, ca, h1, h2, h3, h4, h5, h6, by omega⟩
theorem Tap.same {H H' : Hp} {t : Addr} {n : Nat} (h : Tap H t n) (s : Same H H') : Tap H' t n := by
  obtain ⟨c, ns, sp, re, ca, h1, h2, h3⟩ := h
  exact ⟨c, ns, sp, re, ca, s _ _ h1, s _ _ h2, h3⟩
theorem Tap.new {H : Hp} {t p : Addr} {o : HO} {n : Nat} (h : Tap H t n) (hp : H p = none) : Tap (upd H p o) t n := h.same (same_upd hp)
theorem Tap.ne {H : Hp} {t p : Addr} {n : Nat} (h : Tap H t n) (hp : H p = none) : p ≠ t := fun z => by
  obtain ⟨c, ns, sp, re, ca, h1, _⟩ := h
  rw [z, h1] at hp
  cases hp
theorem Tap.upd_other {H : Hp} {t p : Addr} {o o' : HO} {n : Nat} (h : Tap H t n) (hp : H p = some o) (h1 : ∀ x, o ≠ .dK x) (h2 : ∀ x : List Int, o ≠ .lst (x.map V.int)) : Tap (upd H p o') t n := by
  obtain ⟨c, ns, sp, re, ca, e1, e2, h3⟩ := h
  refine ⟨c, ns, sp, re, ca, ?_, ?_, h3⟩
  · rw [upd_ne]
    · exact e1
    · intro z
      rw [z, hp] at e1
      exact h1 _ (Option.some.inj e1)
  · rw [upd_ne]
    · exact e2
    · intro z
      rw [z, hp] at e2
      exact h2 _ (Option.some.inj e2)
/-- the promise of the tap's draw -/
def spTake : Sp := fun vs H Q _ => ∃ (t : Addr) (m : Int) (n : Nat), vs = [.ref t, .int m] ∧ 0 < m ∧ m < 1000000 ∧ Tap H t n ∧ n < 1000000 ∧
  ∀ v H', 0 ≤ v → v < m → Tap H' t (n + 1) → Kp t H H' → Q (.int v) H'
def spTap (K : PySem.W.Frag) : Sp := fun vs H Q _ => ∃ (a : Addr) (ns : List Int), vs = [.ref a] ∧ SqL K H a (ns.map V.int) ∧
  ∀ t H', Same H H' → H t = none → Tap H' t 0 → Q (.ref t) H'
theorem pow5 (x : Int) (h0 : 0 ≤ x) (h1 : x < 2 ^ 60) : CPow x 5 := ⟨by decide, by decide, by omega⟩
theorem pow5b (y c : Int) (h0 : 0 ≤ c) (h1 : c ≤ 1000000) : CPow (y % 2147483647 + 4099 * c * c) 5 := by
  have a : 0 ≤ 4099 * c * c := Int.mul_nonneg (by omega) h0
  have b : 4099 * c * c ≤ 4099000000 * 1000000 := Int.mul_le_mul (by omega) h1 h0 (by omega)
  exact pow5 _ (by omega) (by omega)
/-! ### repr of flat things -/
def showF : V → Str
  | .non => "None"
  | .bl b => if b then "True" else "False"
  | .int i => toString i
  | _ => ""
def smallV : V → Prop
  | .non => True
  | .bl _ => True
  | .int i => i.natAbs.log2 < 1920
  | _ => False
section
variable {X : Cx}
theorem call_reprF : CallR X (.builtin "repr") (fun xs H Q => ∃ v, xs = [v] ∧ smallV v ∧ Q (.str (showF v)) H) := by
  intro pins s σ H xs us Q I r h
  obtain ⟨v, rfl, hz, q⟩ := h
  obtain ⟨u, rfl, ru⟩ := vals1 r
  cases v with
  | non => cases ru; exact PySem.P.repr_of_none ⟨.str _, H, I.tok _, ⟨_, rfl⟩, q⟩
  | bl b => cases ru; exact PySem.P.repr_of_bool ⟨.str _, H, I.tok _, ⟨_, rfl⟩, q⟩
  | int i =>
    obtain ⟨t, rfl⟩ := ru
    exact PySem.P.repr_of_int hz ⟨.str _, H, I.tok _, ⟨_, rfl⟩, q⟩
  | _ => exact hz.elim
end
theorem small_nat {i : Int} (h0 : -1000000 < i) (h1 : i < 1000000) : i.natAbs.log2 < 1920 := by
  by_cases z : i.natAbs = 0
  · rw [z]; decide
  · refine Nat.lt_of_lt_of_le ((Nat.log2_lt z).mpr (show i.natAbs < 2 ^ 20 by omega)) (by decide)
end My

set_option Elab.async false
set_option linter.all false
set_option maxRecDepth 100000
set_option maxHeartbeats 2000000
namespace L01
open PySem PySem.Spec PyProof.Rows L2 My
def topS (i : Nat) : Stmt := PySem.Challenge.pw_cardsback_k01_days_and_weeks.main.body.getD i (.Pass ⟨0, 0, 0, 0⟩)
abbrev s_is_number : Stmt := topS 3
abbrev N_is_number : List Str := ["thing"]
theorem S_is_number : FnScope N_is_number ["thing"] (defScope s_is_number) := ⟨rfl, rfl, rfl, by decide +kernel, rfl, by decide +kernel, by decide +kernel⟩
abbrev s_is_number_within : Stmt := topS 4
abbrev N_is_number_within : List Str := ["thing", "least", "greatest"]
theorem S_is_number_within : FnScope N_is_number_within ["thing", "least", "greatest"] (defScope s_is_number_within) := ⟨rfl, rfl, rfl, by decide +kernel, rfl, by decide +kernel, by decide +kernel⟩
abbrev s_is_day : Stmt := topS 5
abbrev N_is_day : List Str := ["thing"]
theorem S_is_day : FnScope N_is_day ["thing"] (defScope s_is_day) := ⟨rfl, rfl, rfl, by decide +kernel, rfl, by decide +kernel, by decide +kernel⟩
abbrev s_weekday : Stmt := topS 6
abbrev N_weekday : List Str := ["day"]
theorem S_weekday : FnScope N_weekday ["day"] (defScope s_weekday) := ⟨rfl, rfl, rfl, by decide +kernel, rfl, by decide +kernel, by decide +kernel⟩
abbrev s_next_home : Stmt := topS 7
abbrev N_next_home : List Str := ["home", "day", "later"]
theorem S_next_home : FnScope N_next_home ["home", "day"] (defScope s_next_home) := ⟨rfl, rfl, rfl, by decide +kernel, rfl, by decide +kernel, by decide +kernel⟩
abbrev s_w_tap : Stmt := topS 9
abbrev N_w_tap : List Str := ["_law_script"]
theorem S_w_tap : FnScope N_w_tap ["_law_script"] (defScope s_w_tap) := ⟨rfl, rfl, rfl, by decide +kernel, rfl, by decide +kernel, by decide +kernel⟩
abbrev s_w_take : Stmt := topS 10
abbrev N_w_take : List Str := ["_law_tap_here", "_law_many", "_law_calls", "_law_figure", "_law_spot", "_law_cells", "_law_cell", "_law_once"]
theorem S_w_take : FnScope N_w_take ["_law_tap_here", "_law_many"] (defScope s_w_take) := ⟨rfl, rfl, rfl, by decide +kernel, rfl, by decide +kernel, by decide +kernel⟩
abbrev s_w_home : Stmt := topS 11
abbrev N_w_home : List Str := ["_law_tap_here", "_law_bits", "_law_k"]
theorem S_w_home : FnScope N_w_home ["_law_tap_here"] (defScope s_w_home) := ⟨rfl, rfl, rfl, by decide +kernel, rfl, by decide +kernel, by decide +kernel⟩
abbrev s_w_day : Stmt := topS 12
abbrev N_w_day : List Str := ["_law_tap_here", "_law_way"]
theorem S_w_day : FnScope N_w_day ["_law_tap_here"] (defScope s_w_day) := ⟨rfl, rfl, rfl, by decide +kernel, rfl, by decide +kernel, by decide +kernel⟩
abbrev s_w_thing : Stmt := topS 13
abbrev N_w_thing : List Str := ["_law_tap_here", "_law_day_here", "_law_some"]
theorem S_w_thing : FnScope N_w_thing ["_law_tap_here", "_law_day_here"] (defScope s_w_thing) := ⟨rfl, rfl, rfl, by decide +kernel, rfl, by decide +kernel, by decide +kernel⟩
abbrev s_w_next : Stmt := topS 14
abbrev N_w_next : List Str := ["_law_home_here", "_law_day_here", "_law_k"]
theorem S_w_next : FnScope N_w_next ["_law_home_here", "_law_day_here"] (defScope s_w_next) := ⟨rfl, rfl, rfl, by decide +kernel, rfl, by decide +kernel, by decide +kernel⟩
abbrev s_w_is_day : Stmt := topS 15
abbrev N_w_is_day : List Str := ["_law_thing_here"]
theorem S_w_is_day : FnScope N_w_is_day ["_law_thing_here"] (defScope s_w_is_day) := ⟨rfl, rfl, rfl, by decide +kernel, rfl, by decide +kernel, by decide +kernel⟩
abbrev s_law : Stmt := topS 16
abbrev N_law : List Str := ["_law_script", "_law_tap_here", "_law_k", "_law_day_here", "_law_home_here", "_law_thing_here", "_law_some", "_law_one"]
theorem S_law : FnScope N_law ["_law_script"] (defScope s_law) := ⟨rfl, rfl, rfl, by decide +kernel, rfl, by decide +kernel, by decide +kernel⟩
structure Tx (K : PySem.W.Frag) (mg : Str → Option Value) where
  f_is_number : Addr
  d_is_number : FuncData
  F_is_number : Fun K "is_number" "is_number" s_is_number f_is_number d_is_number
  g_is_number : mg "is_number" = some (.ref f_is_number)
  b_is_number : Binds K d_is_number ["thing"] []
  f_is_number_within : Addr
  d_is_number_within : FuncData
  F_is_number_within : Fun K "is_number_within" "is_number_within" s_is_number_within f_is_number_within d_is_number_within
  g_is_number_within : mg "is_number_within" = some (.ref f_is_number_within)
  b_is_number_within : Binds K d_is_number_within ["thing", "least", "greatest"] []
  f_is_day : Addr
  d_is_day : FuncData
  F_is_day : Fun K "is_day" "is_day" s_is_day f_is_day d_is_day
  g_is_day : mg "is_day" = some (.ref f_is_day)
  b_is_day : Binds K d_is_day ["thing"] []
  f_weekday : Addr
  d_weekday : FuncData
  F_weekday : Fun K "weekday" "weekday" s_weekday f_weekday d_weekday
  g_weekday : mg "weekday" = some (.ref f_weekday)
  b_weekday : Binds K d_weekday ["day"] []
  f_next_home : Addr
  d_next_home : FuncData
  F_next_home : Fun K "next_home" "next_home" s_next_home f_next_home d_next_home
  g_next_home : mg "next_home" = some (.ref f_next_home)
  b_next_home : Binds K d_next_home ["home", "day"] []
  f_w_tap : Addr
  d_w_tap : FuncData
  F_w_tap : Fun K "_law_tap" "_law_tap" s_w_tap f_w_tap d_w_tap
  g_w_tap : mg "_law_tap" = some (.ref f_w_tap)
  b_w_tap : Binds K d_w_tap ["_law_script"] []
  f_w_take : Addr
  d_w_take : FuncData
  F_w_take : Fun K "_law_take" "_law_take" s_w_take f_w_take d_w_take
  g_w_take : mg "_law_take" = some (.ref f_w_take)
  b_w_take : Binds K d_w_take ["_law_tap_here", "_law_many"] []
  f_w_home : Addr
  d_w_home : FuncData
  F_w_home : Fun K "_law_home" "_law_home" s_w_home f_w_home d_w_home
  g_w_home : mg "_law_home" = some (.ref f_w_home)
  b_w_home : Binds K d_w_home ["_law_tap_here"] []
  f_w_day : Addr
  d_w_day : FuncData
  F_w_day : Fun K "_law_day" "_law_day" s_w_day f_w_day d_w_day
  g_w_day : mg "_law_day" = some (.ref f_w_day)
  b_w_day : Binds K d_w_day ["_law_tap_here"] []
  f_w_thing : Addr
  d_w_thing : FuncData
  F_w_thing : Fun K "_law_thing" "_law_thing" s_w_thing f_w_thing d_w_thing
  g_w_thing : mg "_law_thing" = some (.ref f_w_thing)
  b_w_thing : Binds K d_w_thing ["_law_tap_here", "_law_day_here"] []
  f_w_next : Addr
  d_w_next : FuncData
  F_w_next : Fun K "_law_next" "_law_next" s_w_next f_w_next d_w_next
  g_w_next : mg "_law_next" = some (.ref f_w_next)
  b_w_next : Binds K d_w_next ["_law_home_here", "_law_day_here"] []
  f_w_is_day : Addr
  d_w_is_day : FuncData
  F_w_is_day : Fun K "_law_is_day" "_law_is_day" s_w_is_day f_w_is_day d_w_is_day
  g_w_is_day : mg "_law_is_day" = some (.ref f_w_is_day)
  b_w_is_day : Binds K d_w_is_day ["_law_thing_here"] []
  f_law : Addr
  d_law : FuncData
  F_law : Fun K "law" "law" s_law f_law d_law
  g_law : mg "law" = some (.ref f_law)
  b_law : Binds K d_law ["_law_script"] []
  t_WEEK : Tok
  c_WEEK : mg "WEEK" = some (.int 7 t_WEEK)
  t_LAST_DAY : Tok
  c_LAST_DAY : mg "LAST_DAY" = some (.int 9999 t_LAST_DAY)
  m_bool : mg "bool" = none
  m_int : mg "int" = none
  m_isinstance : mg "isinstance" = none
  m_len : mg "len" = none
  m_list : mg "list" = none
  m_range : mg "range" = none
  m_repr : mg "repr" = none
  m_str : mg "str" = none
  m_tuple : mg "tuple" = none
section
variable {P : Program} {w : World} {K : PySem.W.Frag} {mg : Str → Option Value} {base : Heap}
theorem ok_tap (T : Tx K mg) : FnOk P w K mg base CX0 1 T.f_w_tap T.d_w_tap ["_law_script"] (spTap K) := by
  refine T.F_w_tap.ok S_w_tap (fun vs H Q E h => ?_) (fun cdv A outer s H vs Q E hr h => ?_)
  · obtain ⟨a, ns, rfl, _⟩ := h
    rfl
  · obtain ⟨a, ns, rfl, hS, q⟩ := h
    refine ⟨_, (pss_one (ps_ret (pe_disp (pps_cons pe_str (pe_callTy call_list_of (by rfl) T.m_list (by decide +kernel) (pa_cons (pe_slice sl_list (pv 0) po_none (po_some pe_int)) pa_nil)) (pps_cons pe_str pe_int (pps_cons pe_str pe_int (pps_cons pe_str pe_int pps_nil)))) (by rfl) (by rfl) (fun z => by cases z) (by decide)))), ?_⟩
    intro t nt
    have s1 := same_upd (o := .dK []) nt
    refine ⟨.ref a, rfl, 63, rfl, a, _, rfl, s1.seq hS, fun p np => ?_⟩
    have s2 := same_upd (o := .lst (cutV (ns.map V.int) none (some 63))) np
    refine ⟨p, _, rfl, .inl (.inl (.inl upd_same)), fun c nc => ?_⟩
    have s3 := same_upd (o := .lst (cutV (ns.map V.int) none (some 63))) nc
    have ht := s3 _ _ (s2 _ _ (upd_same (H := H) (a := t) (o := .dK [])))
    refine ⟨ht, kt (.ref c) (.int 0) (.int 0) (.int 0), rfl, by show 4 ≤ 15; decide, ?_⟩
    refine q t _ (fun b o e => ?_) nt ?_
    · rw [upd_ne (ne_of_none e nt)]
      exact s3 _ _ (s2 _ _ (s1 _ _ e))
    · have hct : c ≠ t := fun z => by
        rw [z, s2 _ _ (upd_same (H := H) (a := t) (o := .dK []))] at nc
        cases nc
      refine ⟨c, ns.take 63, 0, 0, 0, upd_same, ?_, ?_, by decide, by decide, by decide, by decide⟩
      · rw [upd_ne hct, upd_same]
        congr 2
        unfold cutV
        rw [HT.sIx_none, show HT.sIx (ns.map V.int).length (ns.map V.int).length (some 63) = min 63 (ns.map V.int).length from HT.sIx_nat _ _ 63]
        simp only [List.drop_zero, Nat.sub_zero, List.length_map, ← List.map_take]
        congr 1
        rw [← List.take_take]
        simp
      · rw [List.length_take]
        omega
theorem ok_take (T : Tx K mg) : FnOk P w K mg base CX0 1 T.f_w_take T.d_w_take ["_law_tap_here", "_law_many"] (spTake) := by
  refine T.F_w_take.ok S_w_take (fun vs H Q E h => ?_) (fun cdv A outer s H vs Q E hr h => ?_)
  · obtain ⟨t, m, n, rfl, _⟩ := h
    rfl
  · obtain ⟨t, m, n, rfl, m0, m1, ⟨c, ns, sp, re, ca, hT, hC, hn, sp0, re0, ca0, ca1⟩, n1, q⟩ := h
    have hct : c ≠ t := fun z => by
      rw [z, hT] at hC
      cases hC
    refine ⟨_, (pss_cons (ps_set (i := 2) S_w_take.nd rfl (.inl rfl) (pe_op op_add (pe_dget (hu_of hr) (pv 0) pe_str (fun _ _ => rfl)) pe_int))
      (pss_cons (ps_dput (hu_of hr) (pv 0) pe_str (pv 2) rfl)
      (pss_cons (ps_if (pt_cmpR op_gt (pe_dget (hu_of hr) (pv 0) pe_str (fun _ _ => rfl)) pe_int (nomark _)) (pss_cons (ps_set (i := 3) S_w_take.nd rfl (.inl rfl) (pe_op op_mod (pe_dget (hu_of hr) (pv 0) pe_str (fun _ _ => rfl)) (pv 1)))
      (pss_cons (ps_dput (hu_of hr) (pv 0) pe_str (pe_op op_fdiv (pe_dget (hu_of hr) (pv 0) pe_str (fun _ _ => rfl)) (pv 1)) rfl)
      (pss_one (ps_ret (pv 3))))) pss_nil)
      (pss_cons (ps_set (i := 4) S_w_take.nd rfl (.inl rfl) (pe_dget (hu_of hr) (pv 0) pe_str (fun _ _ => rfl)))
      (pss_cons (ps_dput (hu_of hr) (pv 0) pe_str (pe_op op_add (pv 4) pe_int) rfl)
      (pss_cons (ps_set (i := 5) S_w_take.nd rfl (.inl rfl) (pe_dget (hu_of hr) (pv 0) pe_str (fun _ _ => rfl)))
      (pss_cons (ps_set (i := 6) S_w_take.nd rfl (.inl rfl) (pe_ifExp (pt_cmpR op_gt (pe_callB call_len_seq (by rfl) T.m_len PySem.boot_len (pa_cons (pv 5) pa_nil)) pe_int (nomark _)) (pe_ix ix_list (pv 5) (pe_op op_mod (pv 4) (pe_callB call_len_seq (by rfl) T.m_len PySem.boot_len (pa_cons (pv 5) pa_nil))) (fun _ _ => rfl)) pe_int))
      (pss_cons (ps_if (PW.pt (pw_and (pt_cmpR op_lt (pv 4) (pe_callB call_len_seq (by rfl) T.m_len PySem.boot_len (pa_cons (pv 5) pa_nil)) (nomark _)) (pw_and1 (pt_cmpR op_ge (pv 6) (pe_op op_pow pe_int pe_int) (nomark _))))) (pss_cons (ps_dput (hu_of hr) (pv 0) pe_str (pe_op op_fdiv (pv 6) (pv 1)) rfl)
      (pss_one (ps_ret (pe_op op_mod (pv 6) (pv 1))))) pss_nil)
      (pss_cons (ps_set (i := 7) S_w_take.nd rfl (.inl rfl) (pe_op op_mod (pe_op op_pow (pe_op op_add (pe_op op_add (pe_op op_mod (pv 6) pe_int) (pe_op op_mul pe_int (pv 2))) pe_int) pe_int) pe_int))
      (pss_one (ps_ret (pe_op op_mod (pe_op op_fdiv (pe_op op_mod (pe_op op_pow (pe_op op_add (pv 7) (pe_op op_mul (pe_op op_mul pe_int (pv 2)) (pv 2))) pe_int) pe_int) pe_int) (pv 1))))))))))))), ?_⟩
    refine ⟨.ref t, rfl, t, _, rfl, g_calls hT, ca, 1, rfl, rfl, ?_⟩
    refine ⟨_, rfl, .ref t, rfl, t, _, rfl, p_calls hT, ?_⟩
    have hT1 := upd_same (H := H) (a := t) (o := .dK (kt (.ref c) (.int sp) (.int re) (.int (ca + 1))))
    have hC1 : upd H t (.dK (kt (.ref c) (.int sp) (.int re) (.int (ca + 1)))) c = some (.lst (ns.map V.int)) := by
      rw [upd_ne hct]
      exact hC
    have hK1 : Kp t H (upd H t (.dK (kt (.ref c) (.int sp) (.int re) (.int (ca + 1))))) := (Kp.refl t H).own
    generalize upd H t (.dK (kt (.ref c) (.int sp) (.int re) (.int (ca + 1)))) = H1 at hT1 hC1 hK1 ⊢
    refine ⟨.ref t, rfl, t, _, rfl, g_rest hT1, re, 0, rfl, rfl, _, rfl, ite2 (fun e => ?_) (fun e => ?_)⟩
    · have e : re > 0 := of_decide_eq_true e
      refine ⟨.ref t, rfl, t, _, rfl, g_rest hT1, _, rfl, re, m, rfl, rfl, m0, ?_⟩
      refine ⟨.ref t, rfl, t, _, rfl, g_rest hT1, _, rfl, re, m, rfl, rfl, ⟨m0, by omega⟩, .ref t, rfl, t, _, rfl, p_rest hT1, ?_⟩
      refine ⟨_, rfl, ?_⟩
      refine q _ _ (Int.emod_nonneg _ (by omega)) (Int.emod_lt_of_pos _ m0) ⟨c, ns, sp, re / m, ca + 1, upd_same, ?_, hn, sp0, Int.ediv_nonneg re0 (by omega), by omega, by omega⟩ hK1.own
      rw [upd_ne hct]
      exact hC1
    · refine ⟨.ref t, rfl, t, _, rfl, g_spot hT1, ?_⟩
      refine ⟨_, rfl, _, _, rfl, rfl, .ref t, rfl, t, _, rfl, p_spot hT1, ?_⟩
      have hT2 := upd_same (H := H1) (a := t) (o := .dK (kt (.ref c) (.int (sp + 1)) (.int re) (.int (ca + 1))))
      have hC2 : upd H1 t (.dK (kt (.ref c) (.int (sp + 1)) (.int re) (.int (ca + 1)))) c = some (.lst (ns.map V.int)) := by
        rw [upd_ne hct]
        exact hC1
      have hK2 : Kp t H (upd H1 t (.dK (kt (.ref c) (.int (sp + 1)) (.int re) (.int (ca + 1))))) := hK1.own
      generalize upd H1 t (.dK (kt (.ref c) (.int (sp + 1)) (.int re) (.int (ca + 1)))) = H2 at hT2 hC2 hK2 ⊢
      refine ⟨.ref t, rfl, t, _, rfl, g_cells hT2, ?_⟩
      refine ⟨_, rfl, c, _, rfl, .inl (.inl (.inl hC2)), _, _, rfl, rfl, _, rfl, ite2 (fun e2 => ?a) (fun e2 => ?b)⟩
      case' a =>
        have e2 : ((ns.map V.int).length : Int) > 0 := of_decide_eq_true e2
        rw [List.length_map] at e2
        have b0 : 0 ≤ sp % (ns.length : Int) := Int.emod_nonneg _ (by omega)
        have b1 : sp % (ns.length : Int) < ns.length := Int.emod_lt_of_pos _ (by omega)
        have bn : (sp % (ns.length : Int)).toNat < ns.length := by omega
        refine ⟨_, rfl, _, rfl, _, rfl, c, _, rfl, .inl (.inl (.inl hC2)), _, _, rfl, rfl, (by rw [List.length_map]; exact e2), c, _, _, .int (ns[(sp % (ns.length : Int)).toNat]), rfl, rfl, .inl (.inl hC2), (by
          rw [List.length_map]
          refine at_of (j := (sp % (ns.length : Int)).toNat) (by omega) ?_
          rw [List.getElem?_map, List.getElem?_eq_getElem bn]
          rfl), ?_⟩
        generalize ns[(sp % (ns.length : Int)).toNat] = cell
      all_goals refine ⟨_, rfl, _, rfl, c, _, rfl, .inl (.inl (.inl hC2)), _, _, rfl, rfl, _, rfl, ite2 (fun e3 => ?_) (fun e3 => iteF ?_)⟩
      any_goals refine ⟨_, rfl, _, _, rfl, rfl, ⟨by decide, by decide, by decide⟩, _, _, rfl, rfl, _, rfl, ite2 (fun e4 => ?_) (fun e4 => ?_)⟩
      any_goals
        refine ⟨_, rfl, _, rfl, _, m, rfl, rfl, ⟨m0, by omega⟩, .ref t, rfl, t, _, rfl, p_rest hT2, ?_⟩
        refine ⟨_, rfl, _, rfl, _, m, rfl, rfl, m0, ?_⟩
        refine q _ _ (Int.emod_nonneg _ (by omega)) (Int.emod_lt_of_pos _ m0) ⟨c, ns, sp + 1, _, ca + 1, upd_same, (by rw [upd_ne hct]; exact hC2), hn, by omega, Int.ediv_nonneg ?_ (by omega), by omega, by omega⟩ hK2.own
        have e4 := of_decide_eq_true e4
        exact Int.le_trans (by decide) e4
      all_goals
        refine ⟨_, rfl, _, _, rfl, rfl, (by decide : (0 : Int) < 2147483629), _, rfl, _, _, rfl, rfl, .inl ⟨by decide, by decide⟩, _, _, rfl, rfl, _, _, rfl, rfl, _, _, rfl, rfl, pow5 _ (by omega) (by omega), _, _, rfl, rfl, (by decide : (0 : Int) < 2147483647), ?_⟩
        refine ⟨_, rfl, _, rfl, _, _, rfl, rfl, .inl ⟨by decide, by decide⟩, _, rfl, _, _, rfl, rfl, .inr ⟨by omega, by omega⟩, _, _, rfl, rfl, _, _, rfl, rfl, pow5b _ _ (by omega) (by omega), _, _, rfl, rfl, (by decide : (0 : Int) < 2147483587), _, _, rfl, rfl, ⟨by decide, by decide⟩, _, rfl, _, m, rfl, rfl, m0, ?_⟩
        exact q _ _ (Int.emod_nonneg _ (by omega)) (Int.emod_lt_of_pos _ m0) ⟨c, ns, sp + 1, re, ca + 1, hT2, hC2, hn, by omega, re0, by omega, by omega⟩ hK2
/-! ### kinds of things -/
def Typed (H : Hp) : V → Prop
  | .non => True
  | .bl _ => True
  | .int _ => True
  | .str _ => True
  | .ref a => (∃ xs, H a = some (.tup xs)) ∨ (∃ xs, H a = some (.lst xs))
  | _ => False
theorem Typed.same {H H' : Hp} {v : V} (h : Typed H v) (s : Same H H') : Typed H' v := by
  cases v with
  | ref a =>
    rcases h with ⟨xs, h⟩ | ⟨xs, h⟩
    · exact .inl ⟨xs, s _ _ h⟩
    · exact .inr ⟨xs, s _ _ h⟩
  | _ => exact h
def isI : V → Bool
  | .int _ => true
  | .bl _ => true
  | _ => false
def isB : V → Bool
  | .bl _ => true
  | _ => false
theorem ty_int {H : Hp} {v : V} (h : Typed H v) : ∃ t, TyX K H v t ∧ PySem.W.kitOne K t (.type "int") = some (isI v) := by
  cases v with
  | non => exact ⟨_, .base .non, kit_ty (r := false) (by decide +kernel)⟩
  | bl b => exact ⟨_, .base (.bl b), kit_ty (r := true) (by decide +kernel)⟩
  | int i => exact ⟨_, .base (.int i), kit_ty (r := true) (by decide +kernel)⟩
  | str x => exact ⟨_, .base (.str x), kit_ty (r := false) (by decide +kernel)⟩
  | ref a =>
    rcases h with ⟨xs, h⟩ | ⟨xs, h⟩
    · exact ⟨_, .base (.tup h), kit_ty (r := false) (by decide +kernel)⟩
    · exact ⟨_, .base (.lst h), kit_ty (r := false) (by decide +kernel)⟩
  | _ => exact h.elim
theorem ty_bool {H : Hp} {v : V} (h : Typed H v) : ∃ t, TyX K H v t ∧ PySem.W.kitOne K t (.type "bool") = some (isB v) := by
  cases v with
  | non => exact ⟨_, .base .non, kit_ty (r := false) (by decide +kernel)⟩
  | bl b => exact ⟨_, .base (.bl b), kit_ty (r := true) (by decide +kernel)⟩
  | int i => exact ⟨_, .base (.int i), kit_ty (r := false) (by decide +kernel)⟩
  | str x => exact ⟨_, .base (.str x), kit_ty (r := false) (by decide +kernel)⟩
  | ref a =>
    rcases h with ⟨xs, h⟩ | ⟨xs, h⟩
    · exact ⟨_, .base (.tup h), kit_ty (r := false) (by decide +kernel)⟩
    · exact ⟨_, .base (.lst h), kit_ty (r := false) (by decide +kernel)⟩
  | _ => exact h.elim
def isN (v : V) : Bool := isI v && !isB v
theorem isN_int {v : V} (h : isN v = true) : ∃ i, v = .int i := by
  cases v <;> simp [isN, isI, isB] at h
  exact ⟨_, rfl⟩
def spNum : Sp := fun vs H Q _ => ∃ v, vs = [v] ∧ Typed H v ∧ Q (.bl (isN v)) H
theorem ok_num (T : Tx K mg) : FnOk P w K mg base CX0 1 T.f_is_number T.d_is_number ["thing"] (spNum) := by
  refine T.F_is_number.ok S_is_number (fun vs H Q E h => ?_) (fun cdv A outer s H vs Q E hr h => ?_)
  · obtain ⟨v, rfl, _⟩ := h
    rfl
  · obtain ⟨v, rfl, ht, q⟩ := h
    obtain ⟨t1, y1, k1⟩ := ty_int (K := K) ht
    obtain ⟨t2, y2, k2⟩ := ty_bool (K := K) ht
    refine ⟨_, (pss_one (ps_ret (pe_and (pe_callB call_isi (by rfl) T.m_isinstance (by decide +kernel) (pa_cons (pv 0) (pa_cons (pe_bltn (v := .ty "int") (by rfl) T.m_int (by decide +kernel) rfl) pa_nil))) (pe_one (pe_not (pe_callB call_isi (by rfl) T.m_isinstance (by decide +kernel) (pa_cons (pv 0) (pa_cons (pe_bltn (v := .ty "bool") (by rfl) T.m_bool (by decide +kernel) rfl) pa_nil)))))))), ?_⟩
    refine ⟨v, rfl, v, _, t1, _, _, rfl, .ty _, y1, k1, _, rfl, ite2 (fun e => ?_) (fun e => ?_)⟩
    · refine ⟨v, rfl, v, _, t2, _, _, rfl, .ty _, y2, k2, _, rfl, ?_⟩
      have : isN v = !isB v := by rw [isN, e]; rfl
      rw [this] at q
      exact q
    · have : isN v = false := by
        rw [isN]
        cases z : isI v
        · rfl
        · exact absurd z e
      rw [this] at q
      exact q
def inW (v : V) (a b : Int) : Bool := match v with
  | .int i => decide (a ≤ i) && decide (i ≤ b)
  | _ => false
theorem inW_not {v : V} {a b : Int} (h : ¬ isN v = true) : inW v a b = false := by
  cases v <;> first | rfl | exact absurd rfl h
def spWithin : Sp := fun vs H Q _ => ∃ v a b, vs = [v, .int a, .int b] ∧ Typed H v ∧ Q (.bl (inW v a b)) H
theorem ok_within (T : Tx K mg) : FnOk P w K mg base CX0 2 T.f_is_number_within T.d_is_number_within ["thing", "least", "greatest"] (spWithin) := by
  have G_is_number : FnOk P w K mg base CX0 1 T.f_is_number T.d_is_number ["thing"] (spNum) := ok_num T
  refine T.F_is_number_within.ok S_is_number_within (fun vs H Q E h => ?_) (fun cdv A outer s H vs Q E hr h => ?_)
  · obtain ⟨v, a, b, rfl, _⟩ := h
    rfl
  · obtain ⟨v, a, b, rfl, ht, q⟩ := h
    refine ⟨_, (pss_one (ps_ret (pe_and (pe_call G_is_number hr (by rfl) T.g_is_number T.F_is_number.kp T.b_is_number .nil pass0 (pa_cons (pv 0) pa_nil)) (pe_one (pe_chain op_le op_le (pv 1) (pv 0) (pv 2)))))), ?_⟩
    refine ⟨v, rfl, v, rfl, ht, _, rfl, ite2 (fun e => ?_) (fun e => ?_)⟩
    · obtain ⟨i, rfl⟩ := isN_int e
      refine ⟨_, rfl, _, rfl, _, _, rfl, rfl, _, rfl, ite2 (fun e2 => ?_) (fun e2 => ?_)⟩
      · refine ⟨_, rfl, _, _, rfl, rfl, ?_⟩
        have : inW (.int i) a b = decide (i ≤ b) := by
          show (decide (a ≤ i) && decide (i ≤ b)) = _
          rw [e2]; rfl
        rw [this] at q
        exact q
      · have : inW (.int i) a b = false := by
          show (decide (a ≤ i) && decide (i ≤ b)) = _
          cases z : decide (a ≤ i)
          · rfl
          · exact absurd z e2
        rw [this] at q
        exact q
    · rw [inW_not (a := a) (b := b) e] at q
      exact q
def spIsDay : Sp := fun vs H Q _ => ∃ v, vs = [v] ∧ Typed H v ∧ Q (.bl (inW v 0 9999)) H
theorem ok_is_day (T : Tx K mg) : FnOk P w K mg base CX0 3 T.f_is_day T.d_is_day ["thing"] (spIsDay) := by
  have G_is_number_within : FnOk P w K mg base CX0 2 T.f_is_number_within T.d_is_number_within ["thing", "least", "greatest"] (spWithin) := ok_within T
  refine T.F_is_day.ok S_is_day (fun vs H Q E h => ?_) (fun cdv A outer s H vs Q E hr h => ?_)
  · obtain ⟨v, rfl, _⟩ := h
    rfl
  · obtain ⟨v, rfl, ht, q⟩ := h
    refine ⟨_, (pss_one (ps_ret (pe_call G_is_number_within hr (by rfl) T.g_is_number_within T.F_is_number_within.kp T.b_is_number_within .nil pass0 (pa_cons (pv 0) (pa_cons pe_int (pa_cons (pe_glob (v := .int 9999) (by rfl) T.c_LAST_DAY ⟨_, rfl⟩) pa_nil)))))), ?_⟩
    exact ⟨v, rfl, v, 0, 9999, rfl, ht, q⟩
def spWeekday : Sp := fun vs H Q _ => ∃ d, vs = [.int d] ∧ Q (.int (d % 7)) H
theorem ok_weekday (T : Tx K mg) : FnOk P w K mg base CX0 1 T.f_weekday T.d_weekday ["day"] (spWeekday) := by
  refine T.F_weekday.ok S_weekday (fun vs H Q E h => ?_) (fun cdv A outer s H vs Q E hr h => ?_)
  · obtain ⟨v, rfl, _⟩ := h
    rfl
  · obtain ⟨d, rfl, q⟩ := h
    refine ⟨_, (pss_one (ps_ret (pe_op op_mod (pv 0) (pe_glob (v := .int 7) (by rfl) T.c_WEEK ⟨_, rfl⟩)))), ?_⟩
    exact ⟨_, rfl, d, 7, rfl, rfl, (by decide : (0 : Int) < 7), q⟩
/-- the next day at home, by turns -/
def nh (ws : List V) (d : Int) : Nat → Nat → V
  | 0, _ => .non
  | n + 1, k => if inV (.int ((d + k) % 7)) ws = true then .int (d + k) else nh ws d n (k + 1)
theorem flat_ints (ws : List Int) : (ws.map V.int).all flatV = true := by
  rw [List.all_eq_true]
  intro x hx
  obtain ⟨i, _, rfl⟩ := List.mem_map.mp hx
  rfl
def spNext : Sp := fun vs H Q _ => ∃ (h : Addr) (d : Int) (ws : List Int), vs = [.ref h, .int d] ∧ H h = some (.tup (ws.map V.int)) ∧ 0 ≤ d ∧ d < 1000000 ∧ Q (nh (ws.map V.int) d 7 0) H
theorem ok_next (T : Tx K mg) : FnOk P w K mg base CX0 2 T.f_next_home T.d_next_home ["home", "day"] (spNext) := by
  have G_weekday : FnOk P w K mg base CX0 1 T.f_weekday T.d_weekday ["day"] (spWeekday) := ok_weekday T
  refine T.F_next_home.ok S_next_home (fun vs H Q E h => ?_) (fun cdv A outer s H vs Q E hr h => ?_)
  · obtain ⟨h, d, ws, rfl, _⟩ := h
    rfl
  · obtain ⟨h, d, ws, rfl, hh, d0, d1, q⟩ := h
    refine ⟨_, (pss_cons (ps_for PassesOwn.never rfl (pi_range2 (by rfl) T.m_range (pa_cons (pv 1) (pa_cons (pe_op op_add (pv 1) (pe_glob (v := .int 7) (by rfl) T.c_WEEK ⟨_, rfl⟩)) pa_nil))) (pg_name (i := 2) S_next_home.nd rfl (.inl rfl))
      (pss_one (ps_if (pt_cmpR op_in_seq (pe_call G_weekday hr (by rfl) T.g_weekday T.F_weekday.kp T.b_weekday .nil pass0 (pa_cons (pv 2) pa_nil)) (pv 0) (by rfl)) (pss_one (ps_ret (pv 2))) pss_nil)))
      (pss_one (ps_ret pe_non))), ?_⟩
    refine ⟨_, rfl, _, rfl, _, _, rfl, rfl, _, _, rfl, ⟨by omega, by omega, by omega, by omega⟩, ?_⟩
    rw [show (d + 7 - d).toNat = 7 by omega]
    refine for_range (lo := d) (n := 7) (fun i σ H' => H' = H ∧ (∃ y, σ = [some (.ref h), some (.int d), y]) ∧ nh (ws.map V.int) d 7 0 = nh (ws.map V.int) d (7 - i) i) ⟨rfl, ⟨_, rfl⟩, rfl⟩ ?_ ?_
    · rintro i σ H' hi ⟨rfl, ⟨y, rfl⟩, e⟩
      refine ⟨_, rfl, _, rfl, _, rfl, h, _, rfl, .inr (.inl (.inl hh)), rfl, flat_ints ws, _, rfl, ite2 (fun c => ?_) (fun c => ?_)⟩
      · have c : inV (.int ((d + (i : Int)) % 7)) (ws.map V.int) = true := c
        refine ⟨_, rfl, ?_⟩
        rw [e, show 7 - i = (6 - i) + 1 by omega] at q
        unfold nh at q
        rw [if_pos c] at q
        exact q
      · have c : ¬ inV (.int ((d + (i : Int)) % 7)) (ws.map V.int) = true := c
        refine ⟨rfl, ⟨_, rfl⟩, ?_⟩
        rw [e, show 7 - i = (6 - i) + 1 by omega]
        rw [nh, if_neg c, show 7 - (i + 1) = 6 - i by omega]
    · rintro σ H' ⟨rfl, ⟨y, rfl⟩, e⟩
      rw [e] at q
      exact q
theorem ok_wnext (T : Tx K mg) : FnOk P w K mg base CX0 1 T.f_w_next T.d_w_next ["_law_home_here", "_law_day_here"] (spNext) := by
  refine T.F_w_next.ok S_w_next (fun vs H Q E h => ?_) (fun cdv A outer s H vs Q E hr h => ?_)
  · obtain ⟨h, d, ws, rfl, _⟩ := h
    rfl
  · obtain ⟨h, d, ws, rfl, hh, d0, d1, q⟩ := h
    refine ⟨_, (pss_cons (ps_for PassesOwn.never rfl (pi_range1 (by rfl) T.m_range (pa_cons pe_int pa_nil)) (pg_name (i := 2) S_w_next.nd rfl (.inl rfl))
      (pss_one (ps_if (pt_cmpR op_in_seq (pe_op op_sub (pe_op op_add (pv 1) (pv 2)) (pe_op op_mul (pe_op op_fdiv (pe_op op_add (pv 1) (pv 2)) pe_int) pe_int)) (pv 0) (by rfl)) (pss_one (ps_ret (pe_op op_add (pv 1) (pv 2)))) pss_nil)))
      (pss_one (ps_ret pe_non))), ?_⟩
    refine ⟨7, rfl, by decide, by decide, ?_⟩
    refine for_range (lo := 0) (n := 7) (fun i σ H' => H' = H ∧ (∃ y, σ = [some (.ref h), some (.int d), y]) ∧ nh (ws.map V.int) d 7 0 = nh (ws.map V.int) d (7 - i) i) ⟨rfl, ⟨_, rfl⟩, rfl⟩ ?_ ?_
    · rintro i σ H' hi ⟨rfl, ⟨y, rfl⟩, e⟩
      refine ⟨_, rfl, _, rfl, _, _, rfl, rfl, _, rfl, _, rfl, _, _, rfl, rfl, _, _, rfl, rfl, ⟨by decide, by decide⟩, _, _, rfl, rfl, .inr ⟨by decide, by decide⟩, _, _, rfl, rfl, _, rfl, h, _, rfl, .inr (.inl (.inl hh)), rfl, flat_ints ws, _, rfl, ite2 (fun c => ?_) (fun c => ?_)⟩
      · have e7 : d + (0 + (i : Int)) - (d + (0 + (i : Int))) / 7 * 7 = (d + i) % 7 := by omega
        have c : inV (.int (d + (0 + (i : Int)) - (d + (0 + (i : Int))) / 7 * 7)) (ws.map V.int) = true := c
        rw [e7] at c
        refine ⟨_, rfl, _, rfl, _, _, rfl, rfl, ?_⟩
        rw [e, show 7 - i = (6 - i) + 1 by omega] at q
        unfold nh at q
        rw [if_pos c] at q
        rw [Int.zero_add]
        exact q
      · have e7 : d + (0 + (i : Int)) - (d + (0 + (i : Int))) / 7 * 7 = (d + i) % 7 := by omega
        have c : ¬ inV (.int (d + (0 + (i : Int)) - (d + (0 + (i : Int))) / 7 * 7)) (ws.map V.int) = true := c
        rw [e7] at c
        refine ⟨rfl, ⟨_, rfl⟩, ?_⟩
        rw [e, show 7 - i = (6 - i) + 1 by omega]
        rw [nh, if_neg c, show 7 - (i + 1) = 6 - i by omega]
    · rintro σ H' ⟨rfl, ⟨y, rfl⟩, e⟩
      rw [e] at q
      exact q
def spWIsDay : Sp := spIsDay
theorem ok_wis_day (T : Tx K mg) : FnOk P w K mg base CX0 1 T.f_w_is_day T.d_w_is_day ["_law_thing_here"] (spIsDay) := by
  refine T.F_w_is_day.ok S_w_is_day (fun vs H Q E h => ?_) (fun cdv A outer s H vs Q E hr h => ?_)
  · obtain ⟨v, rfl, _⟩ := h
    rfl
  · obtain ⟨v, rfl, ht, q⟩ := h
    obtain ⟨t1, y1, k1⟩ := ty_int (K := K) ht
    obtain ⟨t2, y2, k2⟩ := ty_bool (K := K) ht
    refine ⟨_, (pss_one (ps_ret (pe_and (pe_callB call_isi (by rfl) T.m_isinstance (by decide +kernel) (pa_cons (pv 0) (pa_cons (pe_bltn (v := .ty "int") (by rfl) T.m_int (by decide +kernel) rfl) pa_nil))) (pe_and (pe_not (pe_callB call_isi (by rfl) T.m_isinstance (by decide +kernel) (pa_cons (pv 0) (pa_cons (pe_bltn (v := .ty "bool") (by rfl) T.m_bool (by decide +kernel) rfl) pa_nil)))) (pe_and (pe_cmpR op_le pe_int (pv 0) (nomark _)) (pe_one (pe_cmpR op_lt (pv 0) pe_int (nomark _)))))))), ?_⟩
    refine ⟨v, rfl, v, _, t1, _, _, rfl, .ty _, y1, k1, _, rfl, ite2 (fun e => ?_) (fun e => ?_)⟩
    · refine ⟨v, rfl, v, _, t2, _, _, rfl, .ty _, y2, k2, _, rfl, _, rfl, ?_⟩
      cases v with
      | int i =>
        refine iteT ⟨_, rfl, _, _, rfl, rfl, _, rfl, ite2 (fun e2 => ?_) (fun e2 => ?_)⟩
        · refine ⟨_, rfl, _, _, rfl, rfl, ?_⟩
          have e2 := of_decide_eq_true e2
          have : inW (.int i) 0 9999 = decide (i < 10000) := by
            show (decide (0 ≤ i) && decide (i ≤ 9999)) = _
            rw [decide_eq_true e2, Bool.true_and]
            exact decide_eq_decide.mpr (by omega)
          rw [this] at q
          exact q
        · have : inW (.int i) 0 9999 = false := by
            show (decide (0 ≤ i) && decide (i ≤ 9999)) = _
            cases z : decide (0 ≤ i)
            · rfl
            · exact absurd z e2
          rw [this] at q
          exact q
      | bl b => exact iteF q
      | _ => exact Bool.noConfusion (show false = true from e)
    · have : inW v 0 9999 = false := by
        cases v <;> first | rfl | exact absurd rfl e
      rw [this] at q
      exact q
/-! ### what the law draws -/
def spWDay : Sp := fun vs H Q _ => ∃ (t : Addr) (n : Nat), vs = [.ref t] ∧ Tap H t n ∧ n < 900000 ∧ ∀ v H', 0 ≤ v → v < 10000 → Tap H' t (n + 2) → Kp t H H' → Q (.int v) H'
theorem ok_wday (T : Tx K mg) : FnOk P w K mg base CX0 2 T.f_w_day T.d_w_day ["_law_tap_here"] (spWDay) := by
  have G_w_take : FnOk P w K mg base CX0 1 T.f_w_take T.d_w_take ["_law_tap_here", "_law_many"] (spTake) := ok_take T
  refine T.F_w_day.ok S_w_day (fun vs H Q E h => ?_) (fun cdv A outer s H vs Q E hr h => ?_)
  · obtain ⟨t, n, rfl, _⟩ := h
    rfl
  · obtain ⟨t, n, rfl, hT, hn, q⟩ := h
    refine ⟨_, (pss_cons (ps_set (i := 1) S_w_day.nd rfl (.inl rfl) (pe_call G_w_take hr (by rfl) T.g_w_take T.F_w_take.kp T.b_w_take .nil pass0 (pa_cons (pv 0) (pa_cons pe_int pa_nil))))
      (pss_cons (ps_if (pt_cmpR op_lt (pv 1) pe_int (nomark _)) (pss_one (ps_ret (pe_ix ix_list (pe_lst (pa_cons pe_int (pa_cons pe_int (pa_cons pe_int (pa_cons pe_int pa_nil))))) (pv 1) (fun _ _ => rfl)))) pss_nil)
      (pss_one (ps_ret (pe_call G_w_take hr (by rfl) T.g_w_take T.F_w_take.kp T.b_w_take .nil pass0 (pa_cons (pv 0) (pa_cons (pe_ifExp (pt_cmpR op_eq (pv 1) pe_int (nomark _)) pe_int pe_int) pa_nil))))))), ?_⟩
    refine ⟨_, rfl, t, 6, n, rfl, by decide, by decide, hT, by omega, fun v H1 v0 v1 hT1 hK1 => ?_⟩
    refine ⟨_, rfl, _, _, rfl, rfl, _, rfl, ite2 (fun e => ?_) (fun e => ?_)⟩
    · have e := of_decide_eq_true e
      refine ⟨sz (by show 4 ≤ 1000; decide), fun p np => ?_⟩
      have h4 : v = 0 ∨ v = 1 ∨ v = 2 ∨ v = 3 := by omega
      rcases h4 with rfl | rfl | rfl | rfl
      · exact ⟨_, rfl, p, _, _, .int 0, rfl, rfl, .inl (.inl upd_same), rfl, q _ _ (by decide) (by decide) ((hT1.mono (by omega)).new np) (hK1.new np)⟩
      · exact ⟨_, rfl, p, _, _, .int 6, rfl, rfl, .inl (.inl upd_same), rfl, q _ _ (by decide) (by decide) ((hT1.mono (by omega)).new np) (hK1.new np)⟩
      · exact ⟨_, rfl, p, _, _, .int 7, rfl, rfl, .inl (.inl upd_same), rfl, q _ _ (by decide) (by decide) ((hT1.mono (by omega)).new np) (hK1.new np)⟩
      · exact ⟨_, rfl, p, _, _, .int 9999, rfl, rfl, .inl (.inl upd_same), rfl, q _ _ (by decide) (by decide) ((hT1.mono (by omega)).new np) (hK1.new np)⟩
    · refine ⟨_, rfl, _, rfl, rfl, _, rfl, ite2 (fun e2 => ?_) (fun e2 => ?_)⟩
      · exact ⟨t, 10000, n + 1, rfl, by decide, by decide, hT1, by omega, fun v2 H2 a b c d => q _ _ a (by omega) c (hK1.trans d)⟩
      · exact ⟨t, 40, n + 1, rfl, by decide, by decide, hT1, by omega, fun v2 H2 a b c d => q _ _ a (by omega) c (hK1.trans d)⟩
def spWHome : Sp := fun vs H Q _ => ∃ (t : Addr) (n : Nat), vs = [.ref t] ∧ Tap H t n ∧ n < 900000 ∧ ∀ p (ws : List Int) H', H' p = some (.tup (ws.map V.int)) → Tap H' t (n + 2) → Kp t H H' → Q (.ref p) H'
theorem ok_whome (T : Tx K mg) : FnOk P w K mg base CX0 2 T.f_w_home T.d_w_home ["_law_tap_here"] (spWHome) := by
  have G_w_take : FnOk P w K mg base CX0 1 T.f_w_take T.d_w_take ["_law_tap_here", "_law_many"] (spTake) := ok_take T
  refine T.F_w_home.ok S_w_home (fun vs H Q E h => ?_) (fun cdv A outer s H vs Q E hr h => ?_)
  · obtain ⟨t, n, rfl, _⟩ := h
    rfl
  · obtain ⟨t, n, rfl, hT, hn, q⟩ := h
    refine ⟨_, (pss_cons (ps_set (i := 1) S_w_home.nd rfl (.inr rfl) (pe_ifExp (pt_cmpR op_eq (pe_call G_w_take hr (by rfl) T.g_w_take T.F_w_take.kp T.b_w_take .nil pass0 (pa_cons (pv 0) (pa_cons pe_int pa_nil))) pe_int (nomark _)) pe_int (pe_call G_w_take hr (by rfl) T.g_w_take T.F_w_take.kp T.b_w_take .nil pass0 (pa_cons (pv 0) (pa_cons pe_int pa_nil)))))
      (pss_one (ps_ret (pe_callTy call_tuple_of (by rfl) T.m_tuple (by decide +kernel) (pa_cons (pe_lc (own := [("_law_k", 2)]) (g := gName 2) (by rfl) S_w_home.nd (pi_range1 (by rfl) T.m_range (pa_cons pe_int pa_nil)) (blkOk_by (own := [("_law_k", 2)]) (N := N_w_home) (sc := defScope s_w_home) (by decide +kernel)) (fun _ _ _ _ _ => (pg_name (i := 2) S_w_home.nd rfl (.inl rfl))) (fun _ _ _ _ _ => (pts_one (pt_cmpR op_eq (pe_op op_and (pe_op op_shr (pv 1) (pv 2)) pe_int) pe_int (nomark _)))) (fun _ _ _ _ _ => (pv 2))) pa_nil))))), ?_⟩
    refine ⟨_, rfl, t, 6, n, rfl, by decide, by decide, hT, by omega, fun v H1 v0 v1 hT1 hK1 => ?_⟩
    refine ⟨rfl, _, rfl, ite2 (fun e => ?_) (fun e => ?_)⟩
    case' refine_2 => refine ⟨_, rfl, t, 128, n + 1, rfl, by decide, by decide, hT1, by omega, fun v2 H2 a b c d => ?_⟩
    case' refine_1 =>
      have c := hT1.mono (Nat.le_succ (n + 1))
      have d := Kp.refl t H1
    all_goals
      have hK2 := hK1.trans d
      refine ⟨7, rfl, by decide, by decide, fun D nD => ?_⟩
      refine lc_range (lo := 0) (n := 7) (fun i H3 => ∃ ws : List Int, H3 = upd _ D (.lst (ws.map V.int)) ∧ ws.length ≤ i) ⟨[], rfl, by decide⟩ ?_ ?_
      · rintro i H3 hi ⟨ws, rfl, hl⟩
        refine ⟨rfl, _, rfl, _, rfl, _, _, rfl, rfl, (by omega), _, _, rfl, rfl, rfl, _, rfl, ite2 (fun e3 => ?_) (fun e3 => ?_)⟩
        · refine ⟨_, rfl, _, upd_same, ?_, ⟨ws ++ [0 + (i : Int)], ?_, ?_⟩⟩
          · rw [List.length_map]
            exact small1000 (by omega)
          · rw [upd_upd', List.map_append]
            rfl
          · rw [List.length_append]
            exact Nat.succ_le_succ hl
        · exact ⟨ws, rfl, by omega⟩
      · rintro H3 ⟨ws, rfl, hl⟩
        exact ⟨D, _, rfl, .inl ⟨.inl (.inl upd_same), fun l nl => q l ws _ upd_same ((c.new nD).new nl) ((hK2.new nD).new nl)⟩⟩
/-! ### a thing -/
def spWThing : Sp := fun vs H Q _ => ∃ (t : Addr) (n : Nat) (d : Int), vs = [.ref t, .int d] ∧ 0 ≤ d ∧ d < 10000 ∧ Tap H t n ∧ n < 900000 ∧ ∀ v H', Typed H' v → Tap H' t (n + 1) → Kp t H H' → Q v H'
theorem ok_wthing (T : Tx K mg) : FnOk P w K mg base CX0 2 T.f_w_thing T.d_w_thing ["_law_tap_here", "_law_day_here"] (spWThing) := by
  have G_w_take : FnOk P w K mg base CX0 1 T.f_w_take T.d_w_take ["_law_tap_here", "_law_many"] (spTake) := ok_take T
  refine T.F_w_thing.ok S_w_thing (fun vs H Q E h => ?_) (fun cdv A outer s H vs Q E hr h => ?_)
  · obtain ⟨t, n, d, rfl, _⟩ := h
    rfl
  · obtain ⟨t, n, d, rfl, d0, d1, hT, hn, q⟩ := h
    refine ⟨_, (pss_cons (ps_set (i := 2) S_w_thing.nd rfl (.inl rfl) (pe_lst (pa_cons (pv 1) (pa_cons (pe_un un_neg pe_int) (pa_cons pe_int (pa_cons pe_int (pa_cons pe_bl (pa_cons pe_bl (pa_cons (pe_callTy call_str_int (by rfl) T.m_str (by decide +kernel) (pa_cons (pv 1) pa_nil)) (pa_cons pe_non (pa_cons (pe_tup (pa_cons (pv 1) pa_nil)) (pa_cons (pe_lst (pa_cons (pv 1) pa_nil)) (pa_cons (pe_op op_pow pe_int pe_int) (pa_cons (pe_op op_sub pe_int (pe_op op_pow pe_int pe_int)) (pa_cons (pe_op op_sub (pe_un un_neg pe_int) (pv 1)) pa_nil)))))))))))))))
      (pss_one (ps_ret (pe_ix ix_list (pv 2) (pe_call G_w_take hr (by rfl) T.g_w_take T.F_w_take.kp T.b_w_take .nil pass0 (pa_cons (pv 0) (pa_cons pe_int pa_nil))) (fun _ _ => rfl))))), ?_⟩
    refine ⟨_, rfl, _, rfl, _, rfl, _, rfl, small_nat (by omega) (by omega), _, rfl, sz (by show 1 ≤ 1000; decide), fun p1 n1 => ?_⟩
    refine ⟨_, rfl, sz (by show 1 ≤ 1000; decide), fun p2 n2 => ?_⟩
    refine ⟨_, _, rfl, rfl, ⟨by decide, by decide, by decide⟩, _, _, rfl, rfl, ⟨by decide, by decide, by decide⟩, _, _, rfl, rfl, 1, rfl, _, rfl, _, _, rfl, rfl, sz (by show 13 ≤ 1000; decide), fun p3 n3 => ?_⟩
    have hne : p3 ≠ t := ((hT.new (o := .tup [.int d]) n1).new (o := .lst [.int d]) n2).ne n3
    have hne1 : p1 ≠ t := hT.ne n1
    have hne2 : p2 ≠ t := (hT.new (o := .tup [.int d]) n1).ne n2
    refine ⟨_, rfl, _, rfl, t, 13, n, rfl, by decide, by decide, ((hT.new n1).new n2).new n3, by omega, fun v H4 v0 v1 hT4 hK4 => ?_⟩
    have h13 : v = 0 ∨ v = 1 ∨ v = 2 ∨ v = 3 ∨ v = 4 ∨ v = 5 ∨ v = 6 ∨ v = 7 ∨ v = 8 ∨ v = 9 ∨ v = 10 ∨ v = 11 ∨ v = 12 := by omega
    have ht : H4 p1 = some (.tup [.int d]) := hK4 _ _ hne1 (same_upd n3 _ _ (same_upd n2 _ _ upd_same))
    have hl : H4 p2 = some (.lst [.int d]) := hK4 _ _ hne2 (same_upd n3 _ _ upd_same)
    rcases h13 with rfl | rfl | rfl | rfl | rfl | rfl | rfl | rfl | rfl | rfl | rfl | rfl | rfl
    all_goals refine ⟨p3, _, _, _, rfl, rfl, .inl (.inl (hK4 _ _ hne upd_same)), rfl, q _ _ ?_ hT4 ((((Kp.refl t H).new n1).new n2).new n3 |>.trans hK4)⟩
    all_goals first | exact True.intro | exact .inl ⟨_, ht⟩ | exact .inr ⟨_, hl⟩
/-! ### the law -/
theorem nh_small (ws : List V) (d : Int) (h0 : 0 ≤ d) (h1 : d < 10000) : ∀ n k, k + n ≤ 7 → smallV (nh ws d n k)
  | 0, _, _ => True.intro
  | n + 1, k, h => by
    rw [nh]
    by_cases c : inV (.int ((d + k) % 7)) ws = true
    · rw [if_pos c]
      exact small_nat (by omega) (by omega)
    · rw [if_neg c]
      exact nh_small ws d h0 h1 n (k + 1) (by omega)
def spLaw (K : PySem.W.Frag) : Sp := fun vs H Q _ => ∃ (a : Addr) (ns : List Int), vs = [.ref a] ∧ SqL K H a (ns.map V.int) ∧ ns.length ≤ 63 ∧ ∀ H', Q (.bl true) H'
theorem ok_law (T : Tx K mg) : FnOk P w K mg base CX0 4 T.f_law T.d_law ["_law_script"] (spLaw K) := by
  have G_w_tap : FnOk P w K mg base CX0 1 T.f_w_tap T.d_w_tap ["_law_script"] (spTap K) := ok_tap T
  have G_w_day : FnOk P w K mg base CX0 2 T.f_w_day T.d_w_day ["_law_tap_here"] (spWDay) := ok_wday T
  have G_w_home : FnOk P w K mg base CX0 2 T.f_w_home T.d_w_home ["_law_tap_here"] (spWHome) := ok_whome T
  have G_w_thing : FnOk P w K mg base CX0 2 T.f_w_thing T.d_w_thing ["_law_tap_here", "_law_day_here"] (spWThing) := ok_wthing T
  have G_weekday : FnOk P w K mg base CX0 1 T.f_weekday T.d_weekday ["day"] (spWeekday) := ok_weekday T
  have G_next_home : FnOk P w K mg base CX0 2 T.f_next_home T.d_next_home ["home", "day"] (spNext) := ok_next T
  have G_w_next : FnOk P w K mg base CX0 1 T.f_w_next T.d_w_next ["_law_home_here", "_law_day_here"] (spNext) := ok_wnext T
  have G_is_day : FnOk P w K mg base CX0 3 T.f_is_day T.d_is_day ["thing"] (spIsDay) := ok_is_day T
  have G_w_is_day : FnOk P w K mg base CX0 1 T.f_w_is_day T.d_w_is_day ["_law_thing_here"] (spIsDay) := ok_wis_day T
  refine T.F_law.ok S_law (fun vs H Q E h => ?_) (fun cdv A outer s H vs Q E hr h => ?_)
  · obtain ⟨a, ns, rfl, _⟩ := h
    rfl
  · obtain ⟨a, ns, rfl, hS, hlen, q⟩ := h
    refine ⟨_, (pss_cons (ps_set (i := 1) S_law.nd rfl (.inl rfl) (pe_call G_w_tap (hr.mono (by decide)) (by rfl) T.g_w_tap T.F_w_tap.kp T.b_w_tap .nil pass0 (pa_cons (pv 0) pa_nil)))
      (pss_cons (ps_for PassesOwn.never rfl (pi_range1 (by rfl) T.m_range (pa_cons pe_int pa_nil)) (pg_name (i := 2) S_law.nd rfl (.inl rfl))
      (pss_cons (ps_set (i := 3) S_law.nd rfl (.inl rfl) (pe_call G_w_day (hr.mono (by decide)) (by rfl) T.g_w_day T.F_w_day.kp T.b_w_day .nil pass0 (pa_cons (pv 1) pa_nil)))
      (pss_cons (ps_set (i := 4) S_law.nd rfl (.inl rfl) (pe_call G_w_home (hr.mono (by decide)) (by rfl) T.g_w_home T.F_w_home.kp T.b_w_home .nil pass0 (pa_cons (pv 1) pa_nil)))
      (pss_cons (ps_set (i := 5) S_law.nd rfl (.inl rfl) (pe_call G_w_thing (hr.mono (by decide)) (by rfl) T.g_w_thing T.F_w_thing.kp T.b_w_thing .nil pass0 (pa_cons (pv 1) (pa_cons (pv 3) pa_nil))))
      (pss_cons (ps_if (pt_cmpR op_ne (pe_callB call_reprF (by rfl) T.m_repr (by decide +kernel) (pa_cons (pe_call G_weekday (hr.mono (by decide)) (by rfl) T.g_weekday T.F_weekday.kp T.b_weekday .nil pass0 (pa_cons (pv 3) pa_nil)) pa_nil)) (pe_callTy call_str_int (by rfl) T.m_str (by decide +kernel) (pa_cons (pe_op op_sub (pv 3) (pe_op op_mul (pe_op op_fdiv (pv 3) pe_int) pe_int)) pa_nil)) (nomark _)) (pss_one (ps_ret pe_bl)) pss_nil)
      (pss_cons (ps_for PassesOwn.never rfl (pi_list (pe_op op_cat (pe_lst (pa_cons (pv 4) pa_nil)) (pe_lc (own := [("_law_one", 7)]) (g := gName 7) (tt := tYes) (by rfl) S_law.nd (pi_range1 (by rfl) T.m_range (pa_cons pe_int pa_nil)) (blkOk_by (own := [("_law_one", 7)]) (N := N_law) (sc := defScope s_law) (by decide +kernel)) (fun _ _ _ _ _ => (pg_name (i := 7) S_law.nd rfl (.inl rfl))) (fun _ _ _ _ _ => pts_nil) (fun _ _ _ _ _ => (pe_tup (pa_cons (pv 7) pa_nil)))))) (pg_name (i := 6) S_law.nd rfl (.inl rfl))
      (pss_one (ps_if (pt_cmpR op_ne (pe_callB call_reprF (by rfl) T.m_repr (by decide +kernel) (pa_cons (pe_call G_next_home (hr.mono (by decide)) (by rfl) T.g_next_home T.F_next_home.kp T.b_next_home .nil pass0 (pa_cons (pv 6) (pa_cons (pv 3) pa_nil))) pa_nil)) (pe_callB call_reprF (by rfl) T.m_repr (by decide +kernel) (pa_cons (pe_call G_w_next (hr.mono (by decide)) (by rfl) T.g_w_next T.F_w_next.kp T.b_w_next .nil pass0 (pa_cons (pv 6) (pa_cons (pv 3) pa_nil))) pa_nil)) (nomark _)) (pss_one (ps_ret pe_bl)) pss_nil)))
      (pss_one (ps_if (pt_cmpR op_ne (pe_callB call_reprF (by rfl) T.m_repr (by decide +kernel) (pa_cons (pe_call G_is_day hr (by rfl) T.g_is_day T.F_is_day.kp T.b_is_day .nil pass0 (pa_cons (pv 5) pa_nil)) pa_nil)) (pe_callB call_reprF (by rfl) T.m_repr (by decide +kernel) (pa_cons (pe_call G_w_is_day (hr.mono (by decide)) (by rfl) T.g_w_is_day T.F_w_is_day.kp T.b_w_is_day .nil pass0 (pa_cons (pv 5) pa_nil)) pa_nil)) (nomark _)) (pss_one (ps_ret pe_bl)) pss_nil))))))))
      (pss_one (ps_ret (pe_cmpR op_is_bl (pe_call G_is_day hr (by rfl) T.g_is_day T.F_is_day.kp T.b_is_day .nil pass0 (pa_cons pe_int pa_nil)) pe_bl (nomark _)))))), ?_⟩
    refine ⟨_, rfl, a, ns, rfl, hS, fun t H1 s1 n1 hT1 => ?_⟩
    refine ⟨12, rfl, by decide, by decide, ?_⟩
    refine for_range (lo := 0) (n := 12) (fun i σ H2 => (∃ y2 y3 y4 y5 y6 y7, σ = [some (.ref a), some (.ref t), y2, y3, y4, y5, y6, y7]) ∧ Tap H2 t (5 * i)) ⟨⟨_, _, _, _, _, _, rfl⟩, hT1⟩ ?_ ?_
    · rintro i σ H2 hi ⟨⟨y2, y3, y4, y5, y6, y7, rfl⟩, hT2⟩
      refine ⟨_, rfl, t, _, rfl, hT2, by omega, fun d H3 d0 d1 hT3 _ => ?_⟩
      refine ⟨_, rfl, t, _, rfl, hT3, by omega, fun hp ws H4 hh4 hT4 _ => ?_⟩
      refine ⟨_, rfl, _, rfl, t, _, d, rfl, d0, d1, hT4, by omega, fun v H5 ty5 hT5 hK5 => ?_⟩
      have hpt : hp ≠ t := fun z => by
        obtain ⟨_, _, _, _, _, e, _⟩ := hT4
        rw [z, e] at hh4
        cases hh4
      have hh5 := hK5 _ _ hpt hh4
      refine ⟨_, rfl, d, rfl, _, rfl, small_nat (by omega) (by omega), _, rfl, _, rfl, _, _, rfl, rfl, ⟨by decide, by decide⟩, _, _, rfl, rfl, .inr ⟨by decide, by decide⟩, _, _, rfl, rfl, _, rfl, small_nat (by omega) (by omega), rfl, _, rfl, iteNS ?_ ?_⟩
      · have e7 : d - d / 7 * 7 = d % 7 := by omega
        show V.str (toString (d % 7)) = V.str (toString (d - d / 7 * 7))
        rw [e7]
      refine ⟨_, rfl, sz (by show 1 ≤ 1000; decide), fun p np => ?_⟩
      have hT6 := hT5.new (o := .lst [.ref hp]) np
      have s6 := same_upd (o := .lst [.ref hp]) np
      have hp6 := upd_same (H := H5) (a := p) (o := .lst [.ref hp])
      generalize upd H5 p (.lst [.ref hp]) = H6 at hT6 s6 hp6 ⊢
      refine ⟨7, rfl, by decide, by decide, fun D nD => ?_⟩
      refine lc_range (lo := 0) (n := 7) (fun j H7 => ∃ (G : Hp) (ps : List Addr), Same H6 G ∧ G D = none ∧ H7 = upd G D (.lst (ps.map V.ref)) ∧ ps.length = j ∧ ∀ r ∈ ps, ∃ w : List Int, G r = some (.tup (w.map V.int)))
        ⟨H6, [], Same.refl _, nD, rfl, rfl, fun r hr => by cases hr⟩ ?_ ?_
      · rintro j H7 hj ⟨G, ps, sG, gD, rfl, hl, hall⟩
        refine ⟨rfl, ?_⟩
        refine tYesT ?_
        refine ⟨_, rfl, sz (by show 1 ≤ 1000; decide), fun r nr => ?_⟩
        obtain ⟨rD, gr⟩ := upd_free nr
        refine ⟨ps.map V.ref, ?_, ?_, upd G r (.tup [.int (0 + (j : Int))]), ps ++ [r], sG.trans (same_upd gr), ?_, ?_, ?_, ?_⟩
        · rw [upd_ne rD.symm, upd_same]
        · rw [List.length_map, hl]
          exact small1000 (by omega)
        · rw [upd_ne rD.symm]
          exact gD
        · rw [upd_comm' rD.symm, upd_upd', List.map_append]
          rfl
        · rw [List.length_append, hl]
          rfl
        · intro x hx
          rcases List.mem_append.mp hx with h | h
          · obtain ⟨w, hw⟩ := hall x h
            exact ⟨w, same_upd gr _ _ hw⟩
          · rw [List.mem_singleton.mp h]
            exact ⟨[0 + (j : Int)], upd_same⟩
      · rintro H7 ⟨G, ps, sG, gD, rfl, hl, hall⟩
        have sD := same_upd (o := .lst (ps.map V.ref)) gD
        refine ⟨p, D, _, _, rfl, rfl, sD _ _ (sG _ _ hp6), upd_same, ?_, fun F nF => ?_⟩
        · rw [List.length_map, hl]
          exact sz (by show 1 + 7 ≤ 1000; decide)
        have s8 := sG.trans (sD.trans (same_upd (o := .lst ([V.ref hp] ++ ps.map V.ref)) nF))
        have hF := upd_same (H := upd G D (.lst (ps.map V.ref))) (a := F) (o := .lst ([V.ref hp] ++ ps.map V.ref))
        have hall8 : ∀ x ∈ [V.ref hp] ++ ps.map V.ref, ∃ (r : Addr) (w : List Int), x = .ref r ∧ upd (upd G D (.lst (ps.map V.ref))) F (.lst ([V.ref hp] ++ ps.map V.ref)) r = some (.tup (w.map V.int)) := by
          intro x hx
          rcases List.mem_append.mp hx with h | h
          · rw [List.mem_singleton.mp h]
            exact ⟨hp, ws, rfl, s8 _ _ (s6 _ _ hh5)⟩
          · obtain ⟨r, hr, rfl⟩ := List.mem_map.mp h
            obtain ⟨w, hw⟩ := hall r hr
            exact ⟨r, w, rfl, same_upd nF _ _ (sD _ _ hw)⟩
        generalize upd (upd G D (.lst (ps.map V.ref))) F (.lst ([V.ref hp] ++ ps.map V.ref)) = H8 at s8 hF hall8 ⊢
        refine ⟨F, rfl, ⟨_, .inl (.inl hF)⟩, ?_⟩
        refine for_list (xs := [V.ref hp] ++ ps.map V.ref) (fun j σ H9 => H9 = H8 ∧ ∃ y6, σ = [some (.ref a), some (.ref t), some (.int (0 + (i : Int))), some (.int d), some (.ref hp), some v, y6, y7]) ⟨rfl, _, rfl⟩ ?_ ?_ ?_
        · rintro j σ H9 _ ⟨rfl, _⟩
          exact .inl (.inl hF)
        · rintro j x σ H9 hx ⟨rfl, y6, rfl⟩
          obtain ⟨r, w, rfl, hw⟩ := hall8 x (List.mem_of_getElem? hx)
          refine ⟨_, rfl, _, rfl, r, d, w, rfl, hw, d0, by omega, _, rfl, nh_small _ _ d0 d1 _ _ (by decide), ?_⟩
          refine ⟨_, rfl, _, rfl, r, d, w, rfl, hw, d0, by omega, _, rfl, nh_small _ _ d0 d1 _ _ (by decide), ?_⟩
          exact ⟨rfl, _, rfl, iteNS rfl ⟨rfl, _, rfl⟩⟩
        · rintro σ H9 ⟨rfl, y6, rfl⟩
          have ty9 := (ty5.same s6).same s8
          refine ⟨_, rfl, v, rfl, ty9, _, rfl, True.intro, _, rfl, v, rfl, ty9, _, rfl, True.intro, rfl, _, rfl, iteNS rfl ⟨⟨_, _, _, _, _, _, rfl⟩, ?_⟩⟩
          exact (hT6.same s8).mono (by omega)
    · rintro σ H2 ⟨⟨y2, y3, y4, y5, y6, y7, rfl⟩, hT2⟩
      exact ⟨.int 0, rfl, True.intro, true, true, rfl, rfl, q _⟩
end
theorem all_mk {l : PySem.W.OpenLaw} {w : World} {K : PySem.W.Frag} {h : Heap} {mg : Str → Option Value} {fa : Addr} (X : K.In h) (G : h.Ns mainGlobals mg) (hfa : mg "law" = some (.ref fa))
    {f1 : Addr} {od1 an1 : Option Addr} {sl1 : Array (Option Value)} {oc1 kV1 dc1 pm1 cd1 ct1 : Value}
    {f2 : Addr} {od2 an2 : Option Addr} {sl2 : Array (Option Value)} {oc2 kV2 dc2 pm2 cd2 ct2 : Value}
    {f3 : Addr} {od3 an3 : Option Addr} {sl3 : Array (Option Value)} {oc3 kV3 dc3 pm3 cd3 ct3 : Value}
    {f4 : Addr} {od4 an4 : Option Addr} {sl4 : Array (Option Value)} {oc4 kV4 dc4 pm4 cd4 ct4 : Value}
    {f5 : Addr} {od5 an5 : Option Addr} {sl5 : Array (Option Value)} {oc5 kV5 dc5 pm5 cd5 ct5 : Value}
    {f6 : Addr} {od6 an6 : Option Addr} {sl6 : Array (Option Value)} {oc6 kV6 dc6 pm6 cd6 ct6 : Value}
    {f7 : Addr} {od7 an7 : Option Addr} {sl7 : Array (Option Value)} {oc7 kV7 dc7 pm7 cd7 ct7 : Value}
    {f8 : Addr} {od8 an8 : Option Addr} {sl8 : Array (Option Value)} {oc8 kV8 dc8 pm8 cd8 ct8 : Value}
    {f9 : Addr} {od9 an9 : Option Addr} {sl9 : Array (Option Value)} {oc9 kV9 dc9 pm9 cd9 ct9 : Value}
    {f10 : Addr} {od10 an10 : Option Addr} {sl10 : Array (Option Value)} {oc10 kV10 dc10 pm10 cd10 ct10 : Value}
    {f11 : Addr} {od11 an11 : Option Addr} {sl11 : Array (Option Value)} {oc11 kV11 dc11 pm11 cd11 ct11 : Value}
    {f12 : Addr} {od12 an12 : Option Addr} {sl12 : Array (Option Value)} {oc12 kV12 dc12 pm12 cd12 ct12 : Value}
    {f13 : Addr} {od13 an13 : Option Addr} {sl13 : Array (Option Value)} {oc13 kV13 dc13 pm13 cd13 ct13 : Value}
    {tk1 : Tok}
    {tk2 : Tok}
    (a1 : PySem.W.nsIn K mainGlobals "is_number" = some (some (.ref f1))) (l1 : K.lookup f1 = some ⟨oc1, od1, .func (PySem.W.fnOf "is_number" "is_number" (defArgs s_is_number) (defBody s_is_number) (defScope s_is_number) .none kV1 dc1 pm1 an1 cd1 ct1), sl1⟩) (c1 : PySem.W.codeIn K cd1 "is_number" = true) (k1 : PySem.W.keepIn K (.ref f1) = true)
    (a2 : PySem.W.nsIn K mainGlobals "is_number_within" = some (some (.ref f2))) (l2 : K.lookup f2 = some ⟨oc2, od2, .func (PySem.W.fnOf "is_number_within" "is_number_within" (defArgs s_is_number_within) (defBody s_is_number_within) (defScope s_is_number_within) .none kV2 dc2 pm2 an2 cd2 ct2), sl2⟩) (c2 : PySem.W.codeIn K cd2 "is_number_within" = true) (k2 : PySem.W.keepIn K (.ref f2) = true)
    (a3 : PySem.W.nsIn K mainGlobals "is_day" = some (some (.ref f3))) (l3 : K.lookup f3 = some ⟨oc3, od3, .func (PySem.W.fnOf "is_day" "is_day" (defArgs s_is_day) (defBody s_is_day) (defScope s_is_day) .none kV3 dc3 pm3 an3 cd3 ct3), sl3⟩) (c3 : PySem.W.codeIn K cd3 "is_day" = true) (k3 : PySem.W.keepIn K (.ref f3) = true)
    (a4 : PySem.W.nsIn K mainGlobals "weekday" = some (some (.ref f4))) (l4 : K.lookup f4 = some ⟨oc4, od4, .func (PySem.W.fnOf "weekday" "weekday" (defArgs s_weekday) (defBody s_weekday) (defScope s_weekday) .none kV4 dc4 pm4 an4 cd4 ct4), sl4⟩) (c4 : PySem.W.codeIn K cd4 "weekday" = true) (k4 : PySem.W.keepIn K (.ref f4) = true)
    (a5 : PySem.W.nsIn K mainGlobals "next_home" = some (some (.ref f5))) (l5 : K.lookup f5 = some ⟨oc5, od5, .func (PySem.W.fnOf "next_home" "next_home" (defArgs s_next_home) (defBody s_next_home) (defScope s_next_home) .none kV5 dc5 pm5 an5 cd5 ct5), sl5⟩) (c5 : PySem.W.codeIn K cd5 "next_home" = true) (k5 : PySem.W.keepIn K (.ref f5) = true)
    (a6 : PySem.W.nsIn K mainGlobals "_law_tap" = some (some (.ref f6))) (l6 : K.lookup f6 = some ⟨oc6, od6, .func (PySem.W.fnOf "_law_tap" "_law_tap" (defArgs s_w_tap) (defBody s_w_tap) (defScope s_w_tap) .none kV6 dc6 pm6 an6 cd6 ct6), sl6⟩) (c6 : PySem.W.codeIn K cd6 "_law_tap" = true) (k6 : PySem.W.keepIn K (.ref f6) = true)
    (a7 : PySem.W.nsIn K mainGlobals "_law_take" = some (some (.ref f7))) (l7 : K.lookup f7 = some ⟨oc7, od7, .func (PySem.W.fnOf "_law_take" "_law_take" (defArgs s_w_take) (defBody s_w_take) (defScope s_w_take) .none kV7 dc7 pm7 an7 cd7 ct7), sl7⟩) (c7 : PySem.W.codeIn K cd7 "_law_take" = true) (k7 : PySem.W.keepIn K (.ref f7) = true)
    (a8 : PySem.W.nsIn K mainGlobals "_law_home" = some (some (.ref f8))) (l8 : K.lookup f8 = some ⟨oc8, od8, .func (PySem.W.fnOf "_law_home" "_law_home" (defArgs s_w_home) (defBody s_w_home) (defScope s_w_home) .none kV8 dc8 pm8 an8 cd8 ct8), sl8⟩) (c8 : PySem.W.codeIn K cd8 "_law_home" = true) (k8 : PySem.W.keepIn K (.ref f8) = true)
    (a9 : PySem.W.nsIn K mainGlobals "_law_day" = some (some (.ref f9))) (l9 : K.lookup f9 = some ⟨oc9, od9, .func (PySem.W.fnOf "_law_day" "_law_day" (defArgs s_w_day) (defBody s_w_day) (defScope s_w_day) .none kV9 dc9 pm9 an9 cd9 ct9), sl9⟩) (c9 : PySem.W.codeIn K cd9 "_law_day" = true) (k9 : PySem.W.keepIn K (.ref f9) = true)
    (a10 : PySem.W.nsIn K mainGlobals "_law_thing" = some (some (.ref f10))) (l10 : K.lookup f10 = some ⟨oc10, od10, .func (PySem.W.fnOf "_law_thing" "_law_thing" (defArgs s_w_thing) (defBody s_w_thing) (defScope s_w_thing) .none kV10 dc10 pm10 an10 cd10 ct10), sl10⟩) (c10 : PySem.W.codeIn K cd10 "_law_thing" = true) (k10 : PySem.W.keepIn K (.ref f10) = true)
    (a11 : PySem.W.nsIn K mainGlobals "_law_next" = some (some (.ref f11))) (l11 : K.lookup f11 = some ⟨oc11, od11, .func (PySem.W.fnOf "_law_next" "_law_next" (defArgs s_w_next) (defBody s_w_next) (defScope s_w_next) .none kV11 dc11 pm11 an11 cd11 ct11), sl11⟩) (c11 : PySem.W.codeIn K cd11 "_law_next" = true) (k11 : PySem.W.keepIn K (.ref f11) = true)
    (a12 : PySem.W.nsIn K mainGlobals "_law_is_day" = some (some (.ref f12))) (l12 : K.lookup f12 = some ⟨oc12, od12, .func (PySem.W.fnOf "_law_is_day" "_law_is_day" (defArgs s_w_is_day) (defBody s_w_is_day) (defScope s_w_is_day) .none kV12 dc12 pm12 an12 cd12 ct12), sl12⟩) (c12 : PySem.W.codeIn K cd12 "_law_is_day" = true) (k12 : PySem.W.keepIn K (.ref f12) = true)
    (a13 : PySem.W.nsIn K mainGlobals "law" = some (some (.ref f13))) (l13 : K.lookup f13 = some ⟨oc13, od13, .func (PySem.W.fnOf "law" "law" (defArgs s_law) (defBody s_law) (defScope s_law) .none kV13 dc13 pm13 an13 cd13 ct13), sl13⟩) (c13 : PySem.W.codeIn K cd13 "law" = true) (k13 : PySem.W.keepIn K (.ref f13) = true)
    (v1 : PySem.W.nsIn K mainGlobals "WEEK" = some (some (.int 7 tk1)))
    (v2 : PySem.W.nsIn K mainGlobals "LAST_DAY" = some (some (.int 9999 tk2)))
    (z1 : PySem.W.nsIn K mainGlobals "bool" = some none)
    (z2 : PySem.W.nsIn K mainGlobals "int" = some none)
    (z3 : PySem.W.nsIn K mainGlobals "isinstance" = some none)
    (z4 : PySem.W.nsIn K mainGlobals "len" = some none)
    (z5 : PySem.W.nsIn K mainGlobals "list" = some none)
    (z6 : PySem.W.nsIn K mainGlobals "range" = some none)
    (z7 : PySem.W.nsIn K mainGlobals "repr" = some none)
    (z8 : PySem.W.nsIn K mainGlobals "str" = some none)
    (z9 : PySem.W.nsIn K mainGlobals "tuple" = some none) :
    ∃ fd : FuncData, (∀ (s : Shared) (v : Value), BindsTo s fd ⟨[v], []⟩ [("_law_script", v)]) ∧ ∀ base : Heap, K.In base → base.Ns mainGlobals mg → FnOk l.prog w K mg base CX0 4 fa fd ["_law_script"] (spLaw K) := by
  have e := hfa.symm.trans (PySem.W.mg_of X G a13)
  cases e
  have F1 := fun_mk (st := s_is_number) l1 c1 k1
  have F2 := fun_mk (st := s_is_number_within) l2 c2 k2
  have F3 := fun_mk (st := s_is_day) l3 c3 k3
  have F4 := fun_mk (st := s_weekday) l4 c4 k4
  have F5 := fun_mk (st := s_next_home) l5 c5 k5
  have F6 := fun_mk (st := s_w_tap) l6 c6 k6
  have F7 := fun_mk (st := s_w_take) l7 c7 k7
  have F8 := fun_mk (st := s_w_home) l8 c8 k8
  have F9 := fun_mk (st := s_w_day) l9 c9 k9
  have F10 := fun_mk (st := s_w_thing) l10 c10 k10
  have F11 := fun_mk (st := s_w_next) l11 c11 k11
  have F12 := fun_mk (st := s_w_is_day) l12 c12 k12
  have F13 := fun_mk (st := s_law) l13 c13 k13
  let T : Tx K mg := { f_is_number := f1, d_is_number := _, F_is_number := F1, g_is_number := PySem.W.mg_of X G a1, b_is_number := (F1.binds fun _ _ _ _ _ _ us hl => match us, hl with | [_], _ => rfl), f_is_number_within := f2, d_is_number_within := _, F_is_number_within := F2, g_is_number_within := PySem.W.mg_of X G a2, b_is_number_within := (F2.binds fun _ _ _ _ _ _ us hl => match us, hl with | [_, _, _], _ => rfl), f_is_day := f3, d_is_day := _, F_is_day := F3, g_is_day := PySem.W.mg_of X G a3, b_is_day := (F3.binds fun _ _ _ _ _ _ us hl => match us, hl with | [_], _ => rfl), f_weekday := f4, d_weekday := _, F_weekday := F4, g_weekday := PySem.W.mg_of X G a4, b_weekday := (F4.binds fun _ _ _ _ _ _ us hl => match us, hl with | [_], _ => rfl), f_next_home := f5, d_next_home := _, F_next_home := F5, g_next_home := PySem.W.mg_of X G a5, b_next_home := (F5.binds fun _ _ _ _ _ _ us hl => match us, hl with | [_, _], _ => rfl), f_w_tap := f6, d_w_tap := _, F_w_tap := F6, g_w_tap := PySem.W.mg_of X G a6, b_w_tap := (F6.binds fun _ _ _ _ _ _ us hl => match us, hl with | [_], _ => rfl), f_w_take := f7, d_w_take := _, F_w_take := F7, g_w_take := PySem.W.mg_of X G a7, b_w_take := (F7.binds fun _ _ _ _ _ _ us hl => match us, hl with | [_, _], _ => rfl), f_w_home := f8, d_w_home := _, F_w_home := F8, g_w_home := PySem.W.mg_of X G a8, b_w_home := (F8.binds fun _ _ _ _ _ _ us hl => match us, hl with | [_], _ => rfl), f_w_day := f9, d_w_day := _, F_w_day := F9, g_w_day := PySem.W.mg_of X G a9, b_w_day := (F9.binds fun _ _ _ _ _ _ us hl => match us, hl with | [_], _ => rfl), f_w_thing := f10, d_w_thing := _, F_w_thing := F10, g_w_thing := PySem.W.mg_of X G a10, b_w_thing := (F10.binds fun _ _ _ _ _ _ us hl => match us, hl with | [_, _], _ => rfl), f_w_next := f11, d_w_next := _, F_w_next := F11, g_w_next := PySem.W.mg_of X G a11, b_w_next := (F11.binds fun _ _ _ _ _ _ us hl => match us, hl with | [_, _], _ => rfl), f_w_is_day := f12, d_w_is_day := _, F_w_is_day := F12, g_w_is_day := PySem.W.mg_of X G a12, b_w_is_day := (F12.binds fun _ _ _ _ _ _ us hl => match us, hl with | [_], _ => rfl), f_law := fa, d_law := _, F_law := F13, g_law := PySem.W.mg_of X G a13, b_law := (F13.binds fun _ _ _ _ _ _ us hl => match us, hl with | [_], _ => rfl), t_WEEK := tk1, c_WEEK := PySem.W.mg_of X G v1, t_LAST_DAY := tk2, c_LAST_DAY := PySem.W.mg_of X G v2, m_bool := PySem.W.mg_none_of X G z1, m_int := PySem.W.mg_none_of X G z2, m_isinstance := PySem.W.mg_none_of X G z3, m_len := PySem.W.mg_none_of X G z4, m_list := PySem.W.mg_none_of X G z5, m_range := PySem.W.mg_none_of X G z6, m_repr := PySem.W.mg_none_of X G z7, m_str := PySem.W.mg_none_of X G z8, m_tuple := PySem.W.mg_none_of X G z9 }
  exact ⟨_, fun s v => .of_eq rfl, fun base _ _ => ok_law T⟩
end L01
open PySem PySem.W PyProof.Rows
set_option maxHeartbeats 0 in
theorem PySem.Challenge.cw_cardsback_k01_days_and_weeks_holds : PySem.Challenge.rw_cardsback_k01_days_and_weeks.Holds := by
  w_on; o_law; k_head; (case hw => w_witness2)
  k_fill
  refine L2.walk_of (l := PySem.Challenge.rw_cardsback_k01_days_and_weeks) (n := 63) (k := 4) (x := "_law_script") (CX := fun _ => L2.CX0) (sp := fun w => L01.spLaw _) rfl (by decide) rfl ⟨rfl, by decide, by decide⟩ (fun w h Y => PySem.W.kIn_of Y) ?F (fun _ _ a ns hl _ hS => ⟨a, ns, rfl, hS, hl, fun _ => rfl⟩) (fun _ _ _ _ _ h => h)
  case F =>
    intro w mg fa h KX G hmg
    refine' L01.all_mk KX G hmg ?a1 ?l1 ?c1 ?k1 ?a2 ?l2 ?c2 ?k2 ?a3 ?l3 ?c3 ?k3 ?a4 ?l4 ?c4 ?k4 ?a5 ?l5 ?c5 ?k5 ?a6 ?l6 ?c6 ?k6 ?a7 ?l7 ?c7 ?k7 ?a8 ?l8 ?c8 ?k8 ?a9 ?l9 ?c9 ?k9 ?a10 ?l10 ?c10 ?k10 ?a11 ?l11 ?c11 ?k11 ?a12 ?l12 ?c12 ?k12 ?a13 ?l13 ?c13 ?k13 ?v1 ?v2 ?z1 ?z2 ?z3 ?z4 ?z5 ?z6 ?z7 ?z8 ?z9
    (case a1 => k_is); (case l1 => k_is); (case c1 => k_is); (case k1 => k_is); (case a2 => k_is); (case l2 => k_is); (case c2 => k_is); (case k2 => k_is); (case a3 => k_is); (case l3 => k_is); (case c3 => k_is); (case k3 => k_is); (case a4 => k_is); (case l4 => k_is); (case c4 => k_is); (case k4 => k_is); (case a5 => k_is); (case l5 => k_is); (case c5 => k_is); (case k5 => k_is); (case a6 => k_is); (case l6 => k_is); (case c6 => k_is); (case k6 => k_is); (case a7 => k_is); (case l7 => k_is); (case c7 => k_is); (case k7 => k_is); (case a8 => k_is); (case l8 => k_is); (case c8 => k_is); (case k8 => k_is); (case a9 => k_is); (case l9 => k_is); (case c9 => k_is); (case k9 => k_is); (case a10 => k_is); (case l10 => k_is); (case c10 => k_is); (case k10 => k_is); (case a11 => k_is); (case l11 => k_is); (case c11 => k_is); (case k11 => k_is); (case a12 => k_is); (case l12 => k_is); (case c12 => k_is); (case k12 => k_is); (case a13 => k_is); (case l13 => k_is); (case c13 => k_is); (case k13 => k_is); (case v1 => k_is); (case v2 => k_is); (case z1 => k_is); (case z2 => k_is); (case z3 => k_is); (case z4 => k_is); (case z5 => k_is); (case z6 => k_is); (case z7 => k_is); (case z8 => k_is); (case z9 => k_is)
