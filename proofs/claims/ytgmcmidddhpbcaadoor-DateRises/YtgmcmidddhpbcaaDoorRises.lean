/- DateRises, for every input: a later moment has a later day or the same day and a later minute, and the weekdays go round by seven; the one condition is the card's: the table of the months' lengths is as the program's text lays it. -/
import Derived.Test.YtgmcmidddhpbcaaDoorAwake
namespace Go.Proofs.YtgmcmidddhpbcaaDoor
open Go.ChangeShapes Go.WideShapes Go.ChangeAt Go.RowKit
set_option linter.unusedVariables false

set_option maxHeartbeats 4000000 in
theorem rises_core (w : World) (hw : Dt.Tab w) (a b d m x y p q : Int)
    (HA : Hid (∀ t w, t = a → Calls Tryd.prog 21 #[.int .i64 t] w fun e w' => e = .returned (.tuple #[.int .i64 d, .int .i64 m, .int .i64 0]) ∧ w = w'))
    (HB : Hid (∀ t w, t = b → Calls Tryd.prog 21 #[.int .i64 t] w fun e w' => e = .returned (.tuple #[.int .i64 x, .int .i64 y, .int .i64 0]) ∧ w = w'))
    (h0 : 0 ≤ d) (h1 : d < 366) (hp : 1 ≤ p) (hp' : p ≤ 7)
    (H0 : Hid (∀ t w, t = d → Calls Tryd.prog 13 #[.int .i64 t] w fun e w' => e = .returned (.int .i64 p) ∧ w = w'))
    (H1 : Hid (d < 365 → ∀ t w, t = d + 1 → Calls Tryd.prog 13 #[.int .i64 t] w fun e w' => e = .returned (.int .i64 q) ∧ w = w'))
    (H7 : Hid (d < 359 → ∀ t w, t = d + 7 → Calls Tryd.prog 13 #[.int .i64 t] w fun e w' => e = .returned (.int .i64 p) ∧ w = w'))
    (hpq : (p == q) = false) (h : (a < b ∧ d < x) ∨ (a < b ∧ ¬ d < x ∧ d = x ∧ m < y) ∨ (¬ a < b ∧ ¬ d < x ∧ (d == x) = false) ∨ (¬ a < b ∧ ¬ d < x ∧ d = x ∧ ¬ m < y)) :
    Calls Tryd.prog 7 #[.int .i64 a, .int .i64 b] w fun e w' => e = .returned (.bool true) ∧ Below w.heap.size w w' := by
  have HW := Lib.hid hw
  clear hw
  have hpn : (p != q) = true := by rw [bne, hpq]; rfl
  rcases h with ⟨u1, u2⟩ | ⟨u1, u2, rfl, u3⟩ | ⟨u1, u2, u3⟩ | ⟨u1, u2, rfl, u3⟩
  all_goals rcases (show d < 359 ∨ (359 ≤ d ∧ d < 365) ∨ (359 ≤ d ∧ 365 ≤ d) by omega) with g1 | ⟨g1, g2⟩ | ⟨g1, g2⟩
  all_goals go_enter Tryd.func7, Tryd.ntmps7
  all_goals go_wp2_with (first
    | (go_at_call 8; refine (awake_any _ HW.out).mono ?_; rintro e w1 ⟨rfl, hb1⟩)
    | (go_at_call 21; refine (HA.out _ _ (by with_reducible rfl)).mono ?_; rintro e w' ⟨rfl, rfl⟩)
    | (go_at_call 21; refine (HB.out _ _ (by with_reducible rfl)).mono ?_; rintro e w' ⟨rfl, rfl⟩)
    | (go_at_call 13; refine (H0.out _ _ (by with_reducible rfl)).mono ?_; rintro e w' ⟨rfl, rfl⟩)
    | (go_at_call 13; refine (H1.out (by omega) _ _ (by with_reducible rfl)).mono ?_; rintro e w' ⟨rfl, rfl⟩)
    | (go_at_call 13; refine (H7.out (by omega) _ _ (by with_reducible rfl)).mono ?_; rintro e w' ⟨rfl, rfl⟩))
  all_goals go_ret
  all_goals first
    | (exfalso; have hx : (!decide (a < b) == decide (d < x)) = true := by assumption
       rw [decide_eq_false (by omega), decide_eq_false (by omega)] at hx; cases hx)
    | (exfalso; have hx : (!decide (a < b) == decide (m < y)) = true := by assumption
       rw [decide_eq_false (by omega), decide_eq_false (by omega)] at hx; cases hx)
    | exact ⟨by first | rfl | simp [*], hb1⟩
theorem splits_any (n : Int) : ∃ u v z : Int, ∀ w, Calls Tryd.prog 21 #[.int .i64 n] w fun e w' => e = .returned (.tuple #[.int .i64 u, .int .i64 v, .int .i64 z]) ∧ w = w' := by
  by_cases h : 0 ≤ n ∧ n < 527040
  · exact ⟨_, _, _, fun w => split_yes n w h.1 h.2⟩
  · exact ⟨_, _, _, fun w => split_no n w h⟩
theorem rises_out (w : World) (hw : Dt.Tab w) (a b u v z x y t : Int)
    (HA : Hid (∀ n w, n = a → Calls Tryd.prog 21 #[.int .i64 n] w fun e w' => e = .returned (.tuple #[.int .i64 u, .int .i64 v, .int .i64 z]) ∧ w = w'))
    (HB : Hid (∀ n w, n = b → Calls Tryd.prog 21 #[.int .i64 n] w fun e w' => e = .returned (.tuple #[.int .i64 x, .int .i64 y, .int .i64 t]) ∧ w = w'))
    (h : z = 1 ∨ (z = 0 ∧ t = 1)) :
    Calls Tryd.prog 7 #[.int .i64 a, .int .i64 b] w fun e w' => e = .returned (.bool true) ∧ Below w.heap.size w w' := by
  have HW := Lib.hid hw
  clear hw
  rcases h with rfl | ⟨rfl, rfl⟩
  all_goals go_enter Tryd.func7, Tryd.ntmps7
  all_goals go_wp2_with (first
    | (go_at_call 8; refine (awake_any _ HW.out).mono ?_; rintro e w1 ⟨rfl, hb1⟩)
    | (go_at_call 21; refine (HA.out _ _ (by with_reducible rfl)).mono ?_; rintro e w' ⟨rfl, rfl⟩)
    | (go_at_call 21; refine (HB.out _ _ (by with_reducible rfl)).mono ?_; rintro e w' ⟨rfl, rfl⟩))
  all_goals go_ret
  all_goals exact ⟨rfl, hb1⟩
theorem rises_walk (w : World) (hw : Dt.Tab w) (a : Int) (ha : (Lit.int .i64 a).wf = true) (b : Int) (hb : (Lit.int .i64 b).wf = true) :
    Calls Tryd.prog 7 #[.int .i64 a, .int .i64 b] w fun e w' => e = .returned (.bool true) ∧ Below w.heap.size w w' := by
  clear ha hb
  by_cases hA : 0 ≤ a ∧ a < 527040
  · obtain ⟨a0, a1⟩ := hA
    by_cases hB : 0 ≤ b ∧ b < 527040
    · obtain ⟨b0, b1⟩ := hB
      refine rises_core w hw a b (a / 1440) (a % 1440) (b / 1440) (b % 1440) (a / 1440 % 7 + 1) ((a / 1440 + 1) % 7 + 1)
        (fun t w ht => by subst ht; exact split_yes _ w a0 a1) (fun t w ht => by subst ht; exact split_yes _ w b0 b1) (by omega) (by omega) (by omega) (by omega)
        (fun t w ht => by subst ht; exact weekday_yes _ w (by omega) (by omega)) (fun h t w ht => by subst ht; exact weekday_yes _ w (by omega) (by omega))
        (fun h t w ht => ?_) (by simp; omega) (by simp only [beq_eq_false_iff_ne]; omega)
      subst ht
      have := weekday_yes (a / 1440 + 7) w (by omega) (by omega)
      rwa [show (a / 1440 + 7) % 7 = a / 1440 % 7 by omega] at this
    · exact rises_out w hw a b (a / 1440) (a % 1440) 0 0 0 1 (fun t w ht => by subst ht; exact split_yes _ w a0 a1) (fun t w ht => by subst ht; exact split_no _ w hB) (Or.inr ⟨rfl, rfl⟩)
  · obtain ⟨x, y, t, hb⟩ := splits_any b
    exact rises_out w hw a b 0 0 1 x y t (fun t w ht => by subst ht; exact split_no _ w hA) (fun t w ht => by subst ht; exact hb w) (Or.inl rfl)

theorem dateRises_contract (H : Type) (enc : TypeId × Value → H) (W : World) (base : Nat) (args : Array Value) (ds gs : List (DataW H)) (before : List MemPlace)
    (hval0 : ∀ (j : Nat) t v, Tryd.f7.params[j]? = some t → args[j]? = some v → Value.okWide Tryd.prog W .any base t v)
    (hW : DataW.Whole enc Tryd.prog Tryd.f7.params.toList Rows.dateRisesSpec.vars false W args.toList ds gs before) (hL : laidMetH Tryd.prog Rows.dateRisesRow.laid W) :
    Calls Tryd.prog 7 args W fun e W' => ∃ v, e = .returned v ∧ Rows.dateRisesSpec.post enc Tryd.prog Tryd.f7 false true false false W args v W' := by
  have hT : Dt.Tab W := table hL
  have hval : ∀ (j : Nat) t v, Tryd.f7.params[j]? = some t → args[j]? = some v → Value.okWide Tryd.prog W .any base t v := hval0
  have hW' := hW
  obtain ⟨p, q, hA0, hV, rfl, hfz, hnd⟩ := hW
  have hA : DataW.TrodAll enc Tryd.prog W 0 (fun _ => true) true Tryd.f7.params.toList args.toList ds p := hA0
  rw [Tryd.params7] at hA hval
  obtain ⟨v0, vs0, d0, ds0, p0, q0, hargs, rfl, rfl, h0, r0⟩ := trodAll_cons hA
  obtain ⟨v1, vs1, d1, ds1, p1, q1, rfl, rfl, rfl, h1, r1⟩ := trodAll_cons r0
  obtain ⟨rfl, rfl, rfl⟩ := trodAll_nil r1
  obtain rfl : args = #[v0, v1] := by cases args; simp_all
  obtain ⟨rfl, rfl⟩ := trodVars_none hV
  obtain ⟨a0, rfl, rfl, rfl, w0⟩ := open_int Tryd.underlying3 (hval 0 3 v0 rfl rfl) h0
  obtain ⟨a1, rfl, rfl, rfl, w1⟩ := open_int Tryd.underlying3 (hval 1 3 v1 rfl rfl) h1
  clear hA0 hval0
  refine (rises_walk W hT a0 w0 a1 w1).mono fun e W' ⟨he, bel⟩ => ?_
  subst he
  exact ⟨_, rfl, _, _, _, [], _, [], hW', trodAll_mk1 (shut_bool Tryd.underlying4 _), (trodAll_cons_mk (shut_int Tryd.underlying3 w0) (trodAll_cons_mk (shut_int Tryd.underlying3 w1) (trodAll_mk0))), rfl, bel.frame _, fun h => by cases h⟩

theorem dateRises_laid_met (os : Os) : laidMet Tryd.prog Rows.dateRisesRow.laid ((laidWorld os).forCall (fun _ _ => 0) ⟨#[], #[.int .i64 0, .int .i64 0], []⟩).memory :=
  laidMet_of_run' 8 (by kernel_rfl) (by kernel_rfl)
theorem dateRises_reads (os : Os) {H : Type} (enc : TypeId × Value → H) : ∃ places, DataW.whole enc Tryd.prog ((laidWorld os).forCall (fun _ _ => 0) ⟨#[], #[.int .i64 0, .int .i64 0], []⟩).memory Tryd.f7.params.toList Rows.dateRisesSpec.vars false #[Value.int .i64 0, Value.int .i64 0].toList 8 = some ([.lit (.int .i64 0), .lit (.int .i64 0)], [], places) :=
  ⟨[], by kernel_rfl⟩

set_option maxRecDepth 100000 in
theorem dateRises_lifted (os : Os) (started : os.Started) (H : Type) (enc : TypeId × Value → H) (F : Stop.Interp) :
    ReturnsInHanded {} Tryd.checked os 7 .any ((OpenSpec.ofChange Rows.dateRisesSpec).preRow enc Tryd.prog Tryd.f7 Rows.dateRisesRow.domain false Rows.dateRisesRow.laid) (((OpenSpec.ofChange Rows.dateRisesSpec).at F).post enc Tryd.prog Tryd.f7 false true false false) := by
  obtain ⟨places, hx⟩ := dateRises_reads os enc
  refine returnsInHanded_of_row (C := Tryd.checked) (s := OpenSpec.ofChange Rows.dateRisesSpec) own started (by kernel_rfl) Tryd.func7
    (witness_row_at (enc := enc) (C := Tryd.checked) false (laidWorld os) #[.int .i64 0, .int .i64 0] rfl (by kernel_rfl) (by kernel_rfl) (by kernel_rfl)
      (OpenSpec.preRow_of_cond 8 hx (by kernel_rfl) (fun k hk => by cases hk) (by kernel_rfl) (dateRises_laid_met os))) ?_
  intro W base args ds gs before hval hW _ _ _ hL _ _
  exact dateRises_contract H enc W base args ds gs before hval hW hL

theorem dateRises_said : Rows.DateRisesSaid :=
  OpenClaim.holds_of_cond 7 Tryd.f7 rfl rfl rfl rfl rfl rfl rfl ⟨rfl, rfl, rfl, rfl, rfl⟩ rfl rfl rfl rfl rfl (by kernel_rfl) Tryd.func7 (by kernel_rfl)
    (of_decide_eq_true (by kernel_rfl)) (by unfold Func.isWrapper; first | (rw [if_pos (by decide +kernel)]; kernel_rfl) | (rw [if_neg (by decide +kernel)]; exact ⟨rfl, rfl⟩))
    (fun os started H enc _ F => by rw [OpenClaim.pre_eq_preRow]; exact dateRises_lifted os started H enc F)

theorem dateRises_plain (f : FuncId) (fn : Func) (hf : Tryd.pinned.checked.prog.funcNamed "jetway/jetwaylaw03.DateRises" = some f) (hfn : Tryd.pinned.checked.prog.funcs[f]? = some fn) :
    false = Tryd.pinned.checked.prog.looks [] ∧ ∀ (j : Nat) t, fn.params[j]? = some t → Tryd.pinned.checked.prog.wantsStandIn t = false := by
  obtain rfl : f = 7 := Option.some.inj ((show Tryd.prog.funcNamed "jetway/jetwaylaw03.DateRises" = some 7 by kernel_rfl).symm.trans hf) |>.symm
  obtain rfl : fn = Tryd.f7 := (Option.some.inj (Tryd.func7.symm.trans hfn)).symm
  refine ⟨by kernel_rfl, fun j t ht => ?_⟩
  rw [Tryd.params7] at ht
  have hm := Array.mem_of_getElem? ht
  obtain rfl : t = 3 := by simpa using hm
  exact (show Tryd.prog.wantsStandIn 3 = false by kernel_rfl)

/-- The card of DateRises. -/
theorem dateRises_holds : Rows.DateRisesCardSaid :=
  Claim7.holds_tied_plain_at .later [] _ _ _ _ dateRises_said (fun _ h => by cases h) (by kernel_rfl) (fun _ h => by cases h) dateRises_row_tie rfl ⟨rfl, rfl⟩ (by kernel_rfl) rfl dateRises_plain (by kernel_rfl)
#print axioms dateRises_holds

end Go.Proofs.YtgmcmidddhpbcaaDoor
