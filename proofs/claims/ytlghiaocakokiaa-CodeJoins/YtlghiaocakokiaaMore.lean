/- Contracts of Carrier and Agent and of the document's. -/
import Derived.Test.YtlghiaocakokiaaKinds
namespace Go.Proofs.Ytlghiaocakokiaa
open Go.RowKit
set_option linter.unusedVariables false

theorem carrier_any (s : ByteArray) (w : World) (hs : s.size ≤ 140737488355328) :
    Calls Try.prog 11 #[.string s] w fun e w' => e = .returned (.bool (Cd.carrier s)) ∧ w = w' := by
  have hb := Cd.get_bt s
  by_cases h : s.size = 2
  · have t1 : ((s.size : Int) == 2) = true := beq_iff_eq.2 (by omega)
    have hl := lad_any s w hs
    have HE : Hid (Cd.carrier s = ((Cd.bs s).all Cd.isM && (Cd.isL (Cd.bt s 0) || Cd.isL (Cd.bt s 1)))) := show _ = _ by
      rw [Cd.carrier, decide_eq_true h, Cd.two s h]; simp
    have h0 : 0 < s.size := by omega
    have h1 : 1 < s.size := by omega
    clear h
    cases hM : (Cd.bs s).all Cd.isM with
    | false =>
      rw [hM] at hl
      have HL := Lib.hid hl
      have HN := Lib.hid (show Cd.carrier s = false by rw [HE.out, hM]; rfl)
      clear hl hM
      go_enter Try.func11, Try.ntmps11
      go_wp2_with (go_at_call 27; refine (HL.out).mono ?_; rintro e w' ⟨rfl, rfl⟩)
      go_ret
      exact ⟨Cd.ret_bool HN.out.symm, rfl⟩
    | true =>
      rw [hM] at hl
      have HL := Lib.hid hl
      cases h2 : Cd.isL (Cd.bt s 0) with
      | true =>
        have HN := Lib.hid (show Cd.carrier s = true by rw [HE.out, hM, h2]; rfl)
        clear hl hM
        go_enter Try.func11, Try.ntmps11
        go_wp2_with (first
          | (go_at_call 27; refine (HL.out).mono ?_; rintro e w' ⟨rfl, rfl⟩)
          | (go_at_call 28; refine (letter_any _ _).mono ?_; rintro e w' ⟨rfl, rfl⟩))
        go_ret
        exact ⟨Cd.ret_bool HN.out.symm, rfl⟩
      | false =>
        have HN := Lib.hid (show Cd.carrier s = Cd.isL (Cd.bt s 1) by rw [HE.out, hM, h2]; rfl)
        clear hl hM
        go_enter Try.func11, Try.ntmps11
        go_wp2_with (first
          | (go_at_call 27; refine (HL.out).mono ?_; rintro e w' ⟨rfl, rfl⟩)
          | (go_at_call 28; refine (letter_any _ _).mono ?_; rintro e w' ⟨rfl, rfl⟩))
        go_ret
        exact ⟨Cd.ret_bool HN.out.symm, rfl⟩
  · have t1 : ((s.size : Int) == 2) = false := beq_eq_false_iff_ne.2 (by omega)
    have HN : Hid (Cd.carrier s = false) := show _ = _ by rw [Cd.carrier, decide_eq_false h]; rfl
    clear h
    go_enter Try.func11, Try.ntmps11
    go_wp2
    go_ret
    exact ⟨Cd.ret_bool HN.out.symm, rfl⟩
theorem rcarrier_any (s : ByteArray) (w : World) (hs : s.size ≤ 140737488355328) :
    Calls Try.prog 12 #[.string s] w fun e w' => e = .returned (.bool (Cd.carrier s)) ∧ w = w' := by
  have hm := mixed_any s 2 2 w hs
  cases hx : (decide (2 ≤ (s.size : Int)) && decide ((s.size : Int) ≤ 2) && (Cd.bs s).all Cd.isM) with
  | true =>
    rw [hx] at hm
    have HM := Lib.hid hm
    have HN : Hid (Cd.carrier s = decide (0 < ((Cd.cnt (Cd.bs s) : Nat) : Int))) := show _ = _ by
      simp only [Bool.and_eq_true, decide_eq_true_eq] at hx
      rw [Cd.cnt_pos, Cd.carrier, decide_eq_true (p := s.size = 2) (by omega), hx.2]; rfl
    clear hm hx
    go_enter Try.func12, Try.ntmps12
    go_wp2_with (first
      | (go_at_call 29; refine (HM.out).mono ?_; rintro e w' ⟨rfl, rfl⟩)
      | (go_at_call 26; refine (rletters_any _ _ hs).mono ?_; rintro e w' ⟨rfl, rfl⟩))
    go_ret
    exact ⟨Cd.ret_bool (by rw [HN.out]; simp), rfl⟩
  | false =>
    rw [hx] at hm
    have HM := Lib.hid hm
    have HN : Hid (Cd.carrier s = false) := show _ = _ by
      cases e : Cd.carrier s with
      | false => rfl
      | true =>
        unfold Cd.carrier at e
        simp only [Bool.and_eq_true, decide_eq_true_eq] at e
        rw [decide_eq_true (p := 2 ≤ (s.size : Int)) (by omega), decide_eq_true (p := (s.size : Int) ≤ 2) (by omega), e.1.2] at hx
        cases hx
    clear hm hx
    go_enter Try.func12, Try.ntmps12
    go_wp2_with (go_at_call 29; refine (HM.out).mono ?_; rintro e w' ⟨rfl, rfl⟩)
    go_ret
    exact ⟨Cd.ret_bool HN.out.symm, rfl⟩
theorem agent_any (s : ByteArray) (w : World) (hs : s.size ≤ 140737488355328) :
    Calls Try.prog 13 #[.string s] w fun e w' => e = .returned (.bool (Cd.agent s)) ∧ w = w' := by
  have hb := Cd.get_bt s
  rcases (show s.size < 2 ∨ (2 ≤ s.size ∧ s.size ≤ 6) ∨ (2 ≤ s.size ∧ 6 < s.size) by omega) with h | ⟨h, h2⟩ | ⟨h, h2⟩
  · have HN : Hid (Cd.agent s = false) := show _ = _ by rw [Cd.agent, decide_eq_false (p := 2 ≤ s.size) (by omega)]; rfl
    go_enter Try.func13, Try.ntmps13
    go_wp2
    go_ret
    exact ⟨Cd.ret_bool HN.out.symm, rfl⟩
  · have h0 : 0 < s.size := by omega
    cases hL : Cd.isL (Cd.bt s 0) with
    | false =>
      have HN : Hid (Cd.agent s = false) := show _ = _ by rw [Cd.agent, hL]; simp
      go_enter Try.func13, Try.ntmps13
      go_wp2_with (go_at_call 28; refine (letter_any _ _).mono ?_; rintro e w' ⟨rfl, rfl⟩)
      go_ret
      exact ⟨Cd.ret_bool HN.out.symm, rfl⟩
    | true =>
      have HN : Hid (Cd.agent s = (Cd.bs s).all Cd.isM) := show _ = _ by rw [Cd.agent, hL, decide_eq_true h, decide_eq_true h2]; rfl
      go_enter Try.func13, Try.ntmps13
      go_wp2_with (first
        | (go_at_call 28; refine (letter_any _ _).mono ?_; rintro e w' ⟨rfl, rfl⟩)
        | (go_at_call 27; refine (lad_any _ _ hs).mono ?_; rintro e w' ⟨rfl, rfl⟩))
      go_ret
      exact ⟨Cd.ret_bool HN.out.symm, rfl⟩
  · have HN : Hid (Cd.agent s = false) := show _ = _ by rw [Cd.agent, decide_eq_false (p := s.size ≤ 6) (by omega)]; simp
    go_enter Try.func13, Try.ntmps13
    go_wp2
    go_ret
    exact ⟨Cd.ret_bool HN.out.symm, rfl⟩
theorem ragent_any (s : ByteArray) (w : World) (hs : s.size ≤ 140737488355328) :
    Calls Try.prog 14 #[.string s] w fun e w' => e = .returned (.bool (Cd.agent s)) ∧ w = w' := by
  have hb := Cd.get_bt s
  have hm := mixed_any s 2 6 w hs
  cases hx : (decide (2 ≤ (s.size : Int)) && decide ((s.size : Int) ≤ 6) && (Cd.bs s).all Cd.isM) with
  | true =>
    rw [hx] at hm
    have HM := Lib.hid hm
    simp only [Bool.and_eq_true, decide_eq_true_eq] at hx
    have h0 : 0 < s.size := by omega
    have HN : Hid (Cd.agent s = Cd.isL (Cd.bt s 0)) := show _ = _ by
      rw [Cd.agent, decide_eq_true (p := 2 ≤ s.size) (by omega), decide_eq_true (p := s.size ≤ 6) (by omega), hx.2]; simp
    clear hm hx
    go_enter Try.func14, Try.ntmps14
    go_wp2_with (first
      | (go_at_call 29; refine (HM.out).mono ?_; rintro e w' ⟨rfl, rfl⟩)
      | (go_at_call 30; refine (rletter_any _ _).mono ?_; rintro e w' ⟨rfl, rfl⟩))
    go_ret
    exact ⟨Cd.ret_bool HN.out.symm, rfl⟩
  | false =>
    rw [hx] at hm
    have HM := Lib.hid hm
    have HN : Hid (Cd.agent s = false) := show _ = _ by
      cases e : Cd.agent s with
      | false => rfl
      | true =>
        unfold Cd.agent at e
        simp only [Bool.and_eq_true, decide_eq_true_eq] at e
        rw [decide_eq_true (p := 2 ≤ (s.size : Int)) (by omega), decide_eq_true (p := (s.size : Int) ≤ 6) (by omega), e.2] at hx
        cases hx
    clear hm hx
    go_enter Try.func14, Try.ntmps14
    go_wp2_with (go_at_call 29; refine (HM.out).mono ?_; rintro e w' ⟨rfl, rfl⟩)
    go_ret
    exact ⟨Cd.ret_bool HN.out.symm, rfl⟩
end Go.Proofs.Ytlghiaocakokiaa
