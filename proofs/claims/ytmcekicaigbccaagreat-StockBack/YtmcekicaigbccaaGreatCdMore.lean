/- Contracts of Carrier and Agent and of the document's. -/
import Derived.Test.YtmcekicaigbccaaGreatCdKinds
namespace Go.Proofs.YtmcekicaigbccaaGreat
open Go.RowKit
set_option linter.unusedVariables false

theorem carrier_any (s : ByteArray) (w : World) (hs : s.size ≤ 9223372036854775807) :
    Calls Tryz.prog 90 #[.string s] w fun e w' => e = .returned (.bool (Cd.carrier s)) ∧ w = w' := by
  have hb := Cd.get_bt s
  by_cases h : s.size = 2
  · have t1 : ((s.size : Int) == 2) = true := beq_iff_eq.2 (by omega)
    have hl := lad_any s w hs
    have HE : Hid (Cd.carrier s = ((Cd.bs s).all Cd.isM && (Cd.isL (Cd.bt s 0) || Cd.isL (Cd.bt s 1)))) := show _ = _ by
      rw [Cd.carrier, decide_eq_true h, Cd.two s h]; simp
    have h0 : 0 < s.size := by omega
    have h1 : 1 < s.size := by omega
    clear h
    cases hM : (Cd.bs s).all Cd.isM with
    | false =>
      rw [hM] at hl
      have HL := Lib.hid hl
      have HN := Lib.hid (show Cd.carrier s = false by rw [HE.out, hM]; rfl)
      clear hl hM
      go_enter Tryz.func90, Tryz.ntmps90
      go_wp2_with (go_at_call 119; refine (HL.out).mono ?_; rintro e w' ⟨rfl, rfl⟩)
      go_ret
      exact ⟨Cd.ret_bool HN.out.symm, rfl⟩
    | true =>
      rw [hM] at hl
      have HL := Lib.hid hl
      cases h2 : Cd.isL (Cd.bt s 0) with
      | true =>
        have HN := Lib.hid (show Cd.carrier s = true by rw [HE.out, hM, h2]; rfl)
        clear hl hM
        go_enter Tryz.func90, Tryz.ntmps90
        go_wp2_with (first
          | (go_at_call 119; refine (HL.out).mono ?_; rintro e w' ⟨rfl, rfl⟩)
          | (go_at_call 120; refine (letter_any _ _).mono ?_; rintro e w' ⟨rfl, rfl⟩))
        go_ret
        exact ⟨Cd.ret_bool HN.out.symm, rfl⟩
      | false =>
        have HN := Lib.hid (show Cd.carrier s = Cd.isL (Cd.bt s 1) by rw [HE.out, hM, h2]; rfl)
        clear hl hM
        go_enter Tryz.func90, Tryz.ntmps90
        go_wp2_with (first
          | (go_at_call 119; refine (HL.out).mono ?_; rintro e w' ⟨rfl, rfl⟩)
          | (go_at_call 120; refine (letter_any _ _).mono ?_; rintro e w' ⟨rfl, rfl⟩))
        go_ret
        exact ⟨Cd.ret_bool HN.out.symm, rfl⟩
  · have t1 : ((s.size : Int) == 2) = false := beq_eq_false_iff_ne.2 (by omega)
    have HN : Hid (Cd.carrier s = false) := show _ = _ by rw [Cd.carrier, decide_eq_false h]; rfl
    clear h
    go_enter Tryz.func90, Tryz.ntmps90
    go_wp2
    go_ret
    exact ⟨Cd.ret_bool HN.out.symm, rfl⟩
theorem rcarrier_any (s : ByteArray) (w : World) (hs : s.size ≤ 9223372036854775807) :
    Calls Tryz.prog 78 #[.string s] w fun e w' => e = .returned (.bool (Cd.carrier s)) ∧ w = w' := by
  have hm := mixed_any s 2 2 w hs
  cases hx : (decide (2 ≤ (s.size : Int)) && decide ((s.size : Int) ≤ 2) && (Cd.bs s).all Cd.isM) with
  | true =>
    rw [hx] at hm
    have HM := Lib.hid hm
    have HN : Hid (Cd.carrier s = decide (0 < ((Cd.cnt (Cd.bs s) : Nat) : Int))) := show _ = _ by
      simp only [Bool.and_eq_true, decide_eq_true_eq] at hx
      rw [Cd.cnt_pos, Cd.carrier, decide_eq_true (p := s.size = 2) (by omega), hx.2]; rfl
    clear hm hx
    go_enter Tryz.func78, Tryz.ntmps78
    go_wp2_with (first
      | (go_at_call 106; refine (HM.out).mono ?_; rintro e w' ⟨rfl, rfl⟩)
      | (go_at_call 107; refine (rletters_any _ _ hs).mono ?_; rintro e w' ⟨rfl, rfl⟩))
    go_ret
    exact ⟨Cd.ret_bool (by rw [HN.out]; simp), rfl⟩
  | false =>
    rw [hx] at hm
    have HM := Lib.hid hm
    have HN : Hid (Cd.carrier s = false) := show _ = _ by
      cases e : Cd.carrier s with
      | false => rfl
      | true =>
        unfold Cd.carrier at e
        simp only [Bool.and_eq_true, decide_eq_true_eq] at e
        rw [decide_eq_true (p := 2 ≤ (s.size : Int)) (by omega), decide_eq_true (p := (s.size : Int) ≤ 2) (by omega), e.1.2] at hx
        cases hx
    clear hm hx
    go_enter Tryz.func78, Tryz.ntmps78
    go_wp2_with (go_at_call 106; refine (HM.out).mono ?_; rintro e w' ⟨rfl, rfl⟩)
    go_ret
    exact ⟨Cd.ret_bool HN.out.symm, rfl⟩
end Go.Proofs.YtmcekicaigbccaaGreat
