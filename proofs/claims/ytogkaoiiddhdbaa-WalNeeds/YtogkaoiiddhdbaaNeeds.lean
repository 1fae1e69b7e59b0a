/- The statement WalNeeds: how many sectors a record takes and an area has is as the document says, for every two numbers, without condition. -/
import Derived.Test.YtogkaoiiddhdbaaFrm
namespace Go.Proofs.Ytogkaoiiddhdbaa
open Go.ChangeShapes Go.WideShapes Go.ChangeAt Go.RowKit
set_option linter.unusedVariables false

namespace Wl
def needI (x : Int) : Int := if x < 1 then 1 else (x - 1) / 491 + 1
def areaI (x : Int) : Int := if x < 2 then 0 else (x - 2) / 2
end Wl
theorem need_int (x : Int) (w : World) (h0 : -9223372036854775808 ≤ x) (h1 : x ≤ 9223372036854775807) :
    Calls Try.prog 11 #[.int .i64 x] w fun e w' => e = .returned (.int .i64 (Wl.needI x)) ∧ w = w' := by
  unfold Wl.needI
  by_cases h : x < 1
  · rw [if_pos h]
    go_enter Try.func11, Try.ntmps11
    go_wp2
    go_ret
    exact ⟨rfl, rfl⟩
  · rw [if_neg h]
    have h2 : 0 ≤ x - 1 := by omega
    have hd : (x - 1).tdiv 491 = (x - 1) / 491 := Int.tdiv_eq_ediv_of_nonneg h2
    go_enter Try.func11, Try.ntmps11
    go_wp2
    go_ret
    exact ⟨Wd.ret_int (by omega), rfl⟩
theorem rneed_int (x : Int) (w : World) (h0 : -9223372036854775808 ≤ x) (h1 : x ≤ 9223372036854775807) :
    Calls Try.prog 12 #[.int .i64 x] w fun e w' => e = .returned (.int .i64 (Wl.needI x)) ∧ w = w' := by
  unfold Wl.needI
  by_cases h : x < 1
  · rw [if_pos h]
    go_enter Try.func12, Try.ntmps12
    go_wp2
    go_ret
    exact ⟨rfl, rfl⟩
  · rw [if_neg h]
    have h2 : 0 ≤ x := by omega
    have hd : x.tdiv 491 = x / 491 := Int.tdiv_eq_ediv_of_nonneg h2
    have hm : x.tmod 491 = x % 491 := Int.tmod_eq_emod_of_nonneg h2
    by_cases h3 : 0 < x % 491
    · go_enter Try.func12, Try.ntmps12
      go_wp2
      go_ret
      exact ⟨Wd.ret_int (by omega), rfl⟩
    · go_enter Try.func12, Try.ntmps12
      go_wp2
      go_ret
      exact ⟨Wd.ret_int (by omega), rfl⟩
theorem area_int (x : Int) (w : World) (h0 : -9223372036854775808 ≤ x) (h1 : x ≤ 9223372036854775807) :
    Calls Try.prog 13 #[.int .i64 x] w fun e w' => e = .returned (.int .i64 (Wl.areaI x)) ∧ w = w' := by
  unfold Wl.areaI
  by_cases h : x < 2
  · rw [if_pos h]
    go_enter Try.func13, Try.ntmps13
    go_wp2
    go_ret
    exact ⟨rfl, rfl⟩
  · rw [if_neg h]
    have h2 : 0 ≤ x - 2 := by omega
    have hd : (x - 2).tdiv 2 = (x - 2) / 2 := Int.tdiv_eq_ediv_of_nonneg h2
    go_enter Try.func13, Try.ntmps13
    go_wp2
    go_ret
    exact ⟨Wd.ret_int (by omega), rfl⟩
theorem rarea_int (x : Int) (w : World) (h0 : -9223372036854775808 ≤ x) (h1 : x ≤ 9223372036854775807) :
    Calls Try.prog 14 #[.int .i64 x] w fun e w' => e = .returned (.int .i64 (Wl.areaI x)) ∧ w = w' := by
  unfold Wl.areaI
  by_cases h : x < 2
  · rw [if_pos h]
    go_enter Try.func14, Try.ntmps14
    go_wp2
    go_ret
    exact ⟨rfl, rfl⟩
  · rw [if_neg h]
    have h2 : 0 ≤ x := by omega
    have hd : x.tdiv 2 = x / 2 := Int.tdiv_eq_ediv_of_nonneg h2
    go_enter Try.func14, Try.ntmps14
    go_wp2
    go_ret
    exact ⟨Wd.ret_int (by omega), rfl⟩
theorem needs_walk (w : World) (n : Int) (wn : (Lit.int .i64 n).wf = true) (m : Int) (wm : (Lit.int .i64 m).wf = true) :
    Calls Try.prog 3 #[.int .i64 n, .int .i64 m] w fun e w' => e = .returned (.bool true) ∧ Below w.heap.size w w' := by
  obtain ⟨n0, n1⟩ := bounds_i64 wn
  obtain ⟨m0, m1⟩ := bounds_i64 wm
  clear wn wm
  have HN : Hid (∀ t, t = n → ∀ w1, Calls Try.prog 11 #[.int .i64 t] w1 fun e w' => e = .returned (.int .i64 (Wl.needI n)) ∧ w1 = w') := fun t ht w1 => by subst ht; exact need_int t w1 n0 n1
  have HRN : Hid (∀ w1, Calls Try.prog 12 #[.int .i64 n] w1 fun e w' => e = .returned (.int .i64 (Wl.needI n)) ∧ w1 = w') := fun w1 => rneed_int n w1 n0 n1
  have HA : Hid (∀ w1, Calls Try.prog 13 #[.int .i64 n] w1 fun e w' => e = .returned (.int .i64 (Wl.areaI n)) ∧ w1 = w') := fun w1 => area_int n w1 n0 n1
  have HRA : Hid (∀ w1, Calls Try.prog 14 #[.int .i64 n] w1 fun e w' => e = .returned (.int .i64 (Wl.areaI n)) ∧ w1 = w') := fun w1 => rarea_int n w1 n0 n1
  by_cases hs : 0 ≤ n ∧ 0 ≤ m ∧ n ≤ 1099511627776 ∧ m ≤ 1099511627776
  · obtain ⟨s1, s2, s3, s4⟩ := hs
    have HM : Hid (∀ t, t = m → ∀ w1, Calls Try.prog 11 #[.int .i64 t] w1 fun e w' => e = .returned (.int .i64 (Wl.needI m)) ∧ w1 = w') := fun t ht w1 => by subst ht; exact need_int t w1 m0 m1
    have HNM : Hid (∀ t, t = n + m → ∀ w1, Calls Try.prog 11 #[.int .i64 t] w1 fun e w' => e = .returned (.int .i64 (Wl.needI (n + m))) ∧ w1 = w') := fun t ht w1 => by subst ht; exact need_int _ w1 (by omega) (by omega)
    have HN4 : Hid (∀ t, t = n + 491 → ∀ w1, Calls Try.prog 11 #[.int .i64 t] w1 fun e w' => e = .returned (.int .i64 (Wl.needI (n + 491))) ∧ w1 = w') := fun t ht w1 => by subst ht; exact need_int _ w1 (by omega) (by omega)
    have hb : 1 ≤ Wl.needI n ∧ Wl.needI n ≤ 1099511627777 := by unfold Wl.needI; split <;> omega
    have hc : 1 ≤ Wl.needI m ∧ Wl.needI m ≤ 1099511627777 := by unfold Wl.needI; split <;> omega
    have ha1 : Wl.needI (n + m) ≤ Wl.needI n + Wl.needI m := by unfold Wl.needI; (repeat' split) <;> omega
    have ha2 : Wl.needI n ≤ Wl.needI (n + m) := by unfold Wl.needI; (repeat' split) <;> omega
    have hd : n = 0 ∨ Wl.needI (n + 491) = Wl.needI n + 1 := by unfold Wl.needI; (repeat' split) <;> omega
    have he : 0 ≤ Wl.areaI n ∧ 2 * Wl.areaI n ≤ n := by unfold Wl.areaI; split <;> omega
    obtain ⟨hb1, hb2⟩ := hb
    obtain ⟨hc1, hc2⟩ := hc
    obtain ⟨he1, he2⟩ := he
    generalize Wl.needI (n + m) = a at *
    generalize Wl.needI n = b at *
    generalize Wl.needI m = c at *
    generalize Wl.needI (n + 491) = d at *
    generalize Wl.areaI n = ar at *
    have hn2 : ¬ n < 0 := by omega
    have hm2 : ¬ m < 0 := by omega
    have hn3 : ¬ 1099511627776 < n := by omega
    have hm3 : ¬ 1099511627776 < m := by omega
    by_cases hz : n = 0
    · have hzb : (n == 0) = true := beq_iff_eq.2 hz
      clear hz hd
      go_enter Try.func3, Try.ntmps3
      go_wp2_with (first
        | (go_at_call 10; refine (awake_any _).mono ?_; rintro e w1 ⟨rfl, hb1⟩)
        | (go_at_call 11; refine (HN.out _ (by with_reducible rfl) _).mono ?_; rintro e w1 ⟨rfl, rfl⟩)
        | (go_at_call 11; refine (HM.out _ (by with_reducible rfl) _).mono ?_; rintro e w1 ⟨rfl, rfl⟩)
        | (go_at_call 11; refine (HNM.out _ (by with_reducible rfl) _).mono ?_; rintro e w1 ⟨rfl, rfl⟩)
        | (go_at_call 11; refine (HN4.out _ (by with_reducible rfl) _).mono ?_; rintro e w1 ⟨rfl, rfl⟩)
        | (go_at_call 12; refine (HRN.out _).mono ?_; rintro e w1 ⟨rfl, rfl⟩)
        | (go_at_call 13; refine (HA.out _).mono ?_; rintro e w1 ⟨rfl, rfl⟩)
        | (go_at_call 14; refine (HRA.out _).mono ?_; rintro e w1 ⟨rfl, rfl⟩))
      go_ret
      exact ⟨rfl, hb1⟩
    · have hzb : (n == 0) = false := beq_eq_false_iff_ne.2 hz
      have hd2 : d = b + 1 := hd.resolve_left hz
      subst hd2
      clear hd
      go_enter Try.func3, Try.ntmps3
      go_wp2_with (first
        | (go_at_call 10; refine (awake_any _).mono ?_; rintro e w1 ⟨rfl, hb1⟩)
        | (go_at_call 11; refine (HN.out _ (by with_reducible rfl) _).mono ?_; rintro e w1 ⟨rfl, rfl⟩)
        | (go_at_call 11; refine (HM.out _ (by with_reducible rfl) _).mono ?_; rintro e w1 ⟨rfl, rfl⟩)
        | (go_at_call 11; refine (HNM.out _ (by with_reducible rfl) _).mono ?_; rintro e w1 ⟨rfl, rfl⟩)
        | (go_at_call 11; refine (HN4.out _ (by with_reducible rfl) _).mono ?_; rintro e w1 ⟨rfl, rfl⟩)
        | (go_at_call 12; refine (HRN.out _).mono ?_; rintro e w1 ⟨rfl, rfl⟩)
        | (go_at_call 13; refine (HA.out _).mono ?_; rintro e w1 ⟨rfl, rfl⟩)
        | (go_at_call 14; refine (HRA.out _).mono ?_; rintro e w1 ⟨rfl, rfl⟩))
      go_ret
      exact ⟨rfl, hb1⟩
  · have hs2 : n < 0 ∨ (¬ n < 0 ∧ m < 0) ∨ (¬ n < 0 ∧ ¬ m < 0 ∧ 1099511627776 < n) ∨ (¬ n < 0 ∧ ¬ m < 0 ∧ ¬ 1099511627776 < n ∧ 1099511627776 < m) := by omega
    clear hs
    generalize Wl.needI n = b at *
    generalize Wl.areaI n = ar at *
    rcases hs2 with h | ⟨h, h'⟩ | ⟨h, h', h''⟩ | ⟨h, h', h'', h'''⟩
    all_goals
      go_enter Try.func3, Try.ntmps3
      go_wp2_with (first
        | (go_at_call 10; refine (awake_any _).mono ?_; rintro e w1 ⟨rfl, hb1⟩)
        | (go_at_call 11; refine (HN.out _ (by with_reducible rfl) _).mono ?_; rintro e w1 ⟨rfl, rfl⟩)
        | (go_at_call 12; refine (HRN.out _).mono ?_; rintro e w1 ⟨rfl, rfl⟩)
        | (go_at_call 13; refine (HA.out _).mono ?_; rintro e w1 ⟨rfl, rfl⟩)
        | (go_at_call 14; refine (HRA.out _).mono ?_; rintro e w1 ⟨rfl, rfl⟩))
      go_ret
      exact ⟨rfl, hb1⟩

set_option maxRecDepth 100000 in
theorem walNeeds_lifted (os : Os) (started : os.Started) (H : Type) (enc : TypeId × Value → H) :
    ReturnsInHanded {} Try.checked os 3 .any (Rows.walNeedsSpec.pre6 enc Try.prog Try.f3 Rows.walNeedsRow.domain false) (Rows.walNeedsSpec.post enc Try.prog Try.f3 false true false false) := by
  refine returnsInHanded_of_change (C := Try.checked) own started (by kernel_rfl) Try.func3
    (ChangeSpec.witness6 (enc := enc) (C := Try.checked) false ⟨#[], #[.int .i64 0, .int .i64 0], []⟩ 8 (by kernel_rfl) (by kernel_rfl) (by kernel_rfl) (by kernel_rfl)) ?_
  intro W base args ds gs before hval0 hW hcnd _
  have hval : ∀ (j : Nat) t v, Try.f3.params[j]? = some t → args[j]? = some v → Value.okWide Try.prog W .any base t v := hval0
  have hW' := hW
  obtain ⟨p, q, hA0, hV, rfl, hfz, hnd⟩ := hW
  have hA : DataW.TrodAll enc Try.prog W 0 (fun _ => true) true Try.f3.params.toList args.toList ds p := hA0
  rw [Try.params3] at hA hval
  obtain ⟨v0, vs0, d0, ds0, p0, q0, hargs, rfl, rfl, h0, r0⟩ := trodAll_cons hA
  obtain ⟨v1, vs1, d1, ds1, p1, q1, rfl, rfl, rfl, h1, r1⟩ := trodAll_cons r0
  obtain ⟨rfl, rfl, rfl⟩ := trodAll_nil r1
  obtain rfl : args = #[v0, v1] := by cases args; simp_all
  obtain ⟨rfl, rfl⟩ := trodVars_none hV
  obtain ⟨a0, rfl, rfl, rfl, w0⟩ := open_int Try.underlying3 (hval 0 3 v0 rfl rfl) h0
  obtain ⟨a1, rfl, rfl, rfl, w1⟩ := open_int Try.underlying3 (hval 1 3 v1 rfl rfl) h1
  clear hA0 hval0
  refine (needs_walk W a0 w0 a1 w1).mono fun e W' ⟨he, bel⟩ => ?_
  subst he
  exact ⟨_, rfl, _, _, _, [], _, [], hW', trodAll_mk1 (shut_bool Try.underlying4 _), (trodAll_cons_mk (shut_int Try.underlying3 w0) (trodAll_cons_mk (shut_int Try.underlying3 w1) (trodAll_mk0))), rfl, bel.frame _, fun h => by cases h⟩

/-- The statement WalNeeds. -/
theorem walNeeds_holds : Rows.WalNeedsSaid :=
  OpenClaim.holds_of_wide 3 Try.f3 rfl rfl rfl rfl rfl rfl rfl ⟨rfl, rfl, rfl, rfl, rfl⟩ rfl rfl rfl rfl rfl (by kernel_rfl) Try.func3 (by kernel_rfl)
    (of_decide_eq_true (by kernel_rfl)) (by unfold Func.isWrapper; first | (rw [if_pos (by decide +kernel)]; kernel_rfl) | (rw [if_neg (by decide +kernel)]; exact ⟨rfl, rfl⟩))
    (fun os started H enc _ => walNeeds_lifted os started H enc)
#print axioms walNeeds_holds

end Go.Proofs.Ytogkaoiiddhdbaa
