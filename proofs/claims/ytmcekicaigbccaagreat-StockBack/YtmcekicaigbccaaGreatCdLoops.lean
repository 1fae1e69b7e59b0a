/- Contracts of the loops over a text that test each byte: letters, lettersAndDigits, the document's count of letters and its Mixed. -/
import Derived.Test.YtmcekicaigbccaaGreatCdPlain
namespace Go.Proofs.YtmcekicaigbccaaGreat
open Go.RowKit
set_option linter.unusedVariables false

namespace Cd
def cnt (l : List Int) : Nat := l.countP isL
theorem cnt_step {s : ByteArray} {k : Nat} (h : k < s.size) : cnt ((bs s).take (k + 1)) = cnt ((bs s).take k) + (if isL (bt s k) then 1 else 0) := by
  unfold cnt
  rw [take_succ s k h, List.countP_append]
  simp [List.countP_cons]
theorem cnt_le (s : ByteArray) (k : Nat) : cnt ((bs s).take k) ≤ k := by
  unfold cnt
  exact Nat.le_trans List.countP_le_length (by rw [List.length_take]; omega)
theorem ret_bool {a b : Bool} (h : a = b) : Ending.returned (.bool a) = .returned (.bool b) := by rw [h]
end Cd

theorem letters_any (s : ByteArray) (w : World) (hs : s.size ≤ 9223372036854775807) :
    Calls Tryz.prog 121 #[.string s] w fun e w' => e = .returned (.bool ((Cd.bs s).all Cd.isL)) ∧ w = w' := by
  have hb := Cd.get_bt s
  go_enter Tryz.func121, Tryz.ntmps121
  go_wp2
  go_loop [6] (fun i => ∃ k : Nat, k ≤ s.size ∧ i = .int .i64 k ∧ Hid (((Cd.bs s).take k).all Cd.isL = true)) (fun i => s.size - (intOf i).toNat)
  case atStart => exact ⟨0, by omega, rfl, show _ = _ by simp⟩
  case round =>
    obtain ⟨k, hk, rfl, HK⟩ := hrel
    by_cases hlt : k < s.size
    · cases hL : Cd.isL (Cd.bt s k) with
      | true =>
        have HN := Lib.hid (Cd.all_step hlt hL HK.out)
        go_wp2_with (go_at_call 120; refine (letter_any _ _).mono ?_; rintro e w' ⟨rfl, rfl⟩)
        go_round
        case rel => exact ⟨k + 1, by omega, by go_num, HN⟩
        case measure => simp [intOf]; omega
      | false =>
        have HN := Lib.hid (Cd.all_no hlt hL)
        go_wp2_with (go_at_call 120; refine (letter_any _ _).mono ?_; rintro e w' ⟨rfl, rfl⟩)
        go_ret
        exact ⟨Cd.ret_bool HN.out.symm, rfl⟩
    · have h0 := HK.out
      rw [show k = s.size by omega, Cd.take_all] at h0
      have HN := Lib.hid h0
      clear h0
      go_wp2
      go_ret
      exact ⟨Cd.ret_bool HN.out.symm, rfl⟩

theorem lad_any (s : ByteArray) (w : World) (hs : s.size ≤ 9223372036854775807) :
    Calls Tryz.prog 119 #[.string s] w fun e w' => e = .returned (.bool ((Cd.bs s).all Cd.isM)) ∧ w = w' := by
  have hb := Cd.get_bt s
  go_enter Tryz.func119, Tryz.ntmps119
  go_wp2
  go_loop [6] (fun i => ∃ k : Nat, k ≤ s.size ∧ i = .int .i64 k ∧ Hid (((Cd.bs s).take k).all Cd.isM = true)) (fun i => s.size - (intOf i).toNat)
  case atStart => exact ⟨0, by omega, rfl, show _ = _ by simp⟩
  case round =>
    obtain ⟨k, hk, rfl, HK⟩ := hrel
    by_cases hlt : k < s.size
    · cases hL : Cd.isL (Cd.bt s k) with
      | true =>
        have HN := Lib.hid (Cd.all_step (p := Cd.isM) hlt (by simp [Cd.isM, hL]) HK.out)
        go_wp2_with (first
          | (go_at_call 120; refine (letter_any _ _).mono ?_; rintro e w' ⟨rfl, rfl⟩)
          | (go_at_call 133; refine (digit_any _ _).mono ?_; rintro e w' ⟨rfl, rfl⟩))
        go_round
        case rel => exact ⟨k + 1, by omega, by go_num, HN⟩
        case measure => simp [intOf]; omega
      | false =>
        cases hD : Cd.isD (Cd.bt s k) with
        | true =>
          have HN := Lib.hid (Cd.all_step (p := Cd.isM) hlt (by simp [Cd.isM, hD]) HK.out)
          go_wp2_with (first
          | (go_at_call 120; refine (letter_any _ _).mono ?_; rintro e w' ⟨rfl, rfl⟩)
          | (go_at_call 133; refine (digit_any _ _).mono ?_; rintro e w' ⟨rfl, rfl⟩))
          go_round
          case rel => exact ⟨k + 1, by omega, by go_num, HN⟩
          case measure => simp [intOf]; omega
        | false =>
          have HN := Lib.hid (Cd.all_no (p := Cd.isM) hlt (by simp [Cd.isM, hL, hD]))
          go_wp2_with (first
          | (go_at_call 120; refine (letter_any _ _).mono ?_; rintro e w' ⟨rfl, rfl⟩)
          | (go_at_call 133; refine (digit_any _ _).mono ?_; rintro e w' ⟨rfl, rfl⟩))
          go_ret
          exact ⟨Cd.ret_bool HN.out.symm, rfl⟩
    · have h0 := HK.out
      rw [show k = s.size by omega, Cd.take_all] at h0
      have HN := Lib.hid h0
      clear h0
      go_wp2
      go_ret
      exact ⟨Cd.ret_bool HN.out.symm, rfl⟩

/-- Mixed within its bounds. -/
theorem mixed_in (s : ByteArray) (lo hi : Int) (w : World) (hs : s.size ≤ 9223372036854775807) (hlo : lo ≤ (s.size : Int)) (hhi : (s.size : Int) ≤ hi) :
    Calls Tryz.prog 106 #[.string s, .int .i64 lo, .int .i64 hi] w fun e w' => e = .returned (.bool ((Cd.bs s).all Cd.isM)) ∧ w = w' := by
  have hb := Cd.get_bt s
  have t1 : decide ((s.size : Int) < lo) = false := by simp; omega
  have t2 : decide (hi < (s.size : Int)) = false := by simp; omega
  go_enter Tryz.func106, Tryz.ntmps106
  go_wp2
  go_loop [7] (fun i => ∃ k : Nat, k ≤ s.size ∧ i = .int .i64 k ∧ Hid (((Cd.bs s).take k).all Cd.isM = true)) (fun i => s.size - (intOf i).toNat)
  case atStart => exact ⟨0, by omega, rfl, show _ = _ by simp⟩
  case round =>
    obtain ⟨k, hk, rfl, HK⟩ := hrel
    by_cases hlt : k < s.size
    · cases hL : Cd.isL (Cd.bt s k) with
      | true =>
        have HN := Lib.hid (Cd.all_step (p := Cd.isM) hlt (by simp [Cd.isM, hL]) HK.out)
        go_wp2_with (first
          | (go_at_call 108; refine (rletter_any _ _).mono ?_; rintro e w' ⟨rfl, rfl⟩)
          | (go_at_call 128; refine (rdigit_any _ _).mono ?_; rintro e w' ⟨rfl, rfl⟩))
        go_round
        case rel => exact ⟨k + 1, by omega, by go_num, HN⟩
        case measure => simp [intOf]; omega
      | false =>
        cases hD : Cd.isD (Cd.bt s k) with
        | true =>
          have HN := Lib.hid (Cd.all_step (p := Cd.isM) hlt (by simp [Cd.isM, hD]) HK.out)
          go_wp2_with (first
          | (go_at_call 108; refine (rletter_any _ _).mono ?_; rintro e w' ⟨rfl, rfl⟩)
          | (go_at_call 128; refine (rdigit_any _ _).mono ?_; rintro e w' ⟨rfl, rfl⟩))
          go_round
          case rel => exact ⟨k + 1, by omega, by go_num, HN⟩
          case measure => simp [intOf]; omega
        | false =>
          have HN := Lib.hid (Cd.all_no (p := Cd.isM) hlt (by simp [Cd.isM, hL, hD]))
          go_wp2_with (first
          | (go_at_call 108; refine (rletter_any _ _).mono ?_; rintro e w' ⟨rfl, rfl⟩)
          | (go_at_call 128; refine (rdigit_any _ _).mono ?_; rintro e w' ⟨rfl, rfl⟩))
          go_ret
          exact ⟨Cd.ret_bool HN.out.symm, rfl⟩
    · have h0 := HK.out
      rw [show k = s.size by omega, Cd.take_all] at h0
      have HN := Lib.hid h0
      clear h0
      go_wp2
      go_ret
      exact ⟨Cd.ret_bool HN.out.symm, rfl⟩

theorem mixed_few (s : ByteArray) (lo hi : Int) (w : World) (hs : s.size ≤ 9223372036854775807) (hlo : (s.size : Int) < lo) :
    Calls Tryz.prog 106 #[.string s, .int .i64 lo, .int .i64 hi] w fun e w' => e = .returned (.bool false) ∧ w = w' := by
  go_enter Tryz.func106, Tryz.ntmps106
  go_wp2
  go_ret
  exact ⟨rfl, rfl⟩
theorem mixed_many (s : ByteArray) (lo hi : Int) (w : World) (hs : s.size ≤ 9223372036854775807) (hlo : lo ≤ (s.size : Int)) (hhi : hi < (s.size : Int)) :
    Calls Tryz.prog 106 #[.string s, .int .i64 lo, .int .i64 hi] w fun e w' => e = .returned (.bool false) ∧ w = w' := by
  go_enter Tryz.func106, Tryz.ntmps106
  go_wp2
  go_ret
  exact ⟨rfl, rfl⟩
theorem mixed_any (s : ByteArray) (lo hi : Int) (w : World) (hs : s.size ≤ 9223372036854775807) :
    Calls Tryz.prog 106 #[.string s, .int .i64 lo, .int .i64 hi] w fun e w' => e = .returned (.bool (decide (lo ≤ (s.size : Int)) && decide ((s.size : Int) ≤ hi) && (Cd.bs s).all Cd.isM)) ∧ w = w' := by
  rcases Int.lt_or_le (s.size : Int) lo with h | h
  · refine (mixed_few s lo hi w hs h).mono ?_
    rintro e w' ⟨rfl, rfl⟩
    exact ⟨Cd.ret_bool (by rw [decide_eq_false (by omega)]; rfl), rfl⟩
  · rcases Int.lt_or_le hi (s.size : Int) with h2 | h2
    · refine (mixed_many s lo hi w hs h h2).mono ?_
      rintro e w' ⟨rfl, rfl⟩
      exact ⟨Cd.ret_bool (by rw [decide_eq_false (p := (s.size : Int) ≤ hi) (by omega)]; simp), rfl⟩
    · refine (mixed_in s lo hi w hs h h2).mono ?_
      rintro e w' ⟨rfl, rfl⟩
      exact ⟨Cd.ret_bool (by rw [decide_eq_true h, decide_eq_true h2]; rfl), rfl⟩

theorem rletters_any (s : ByteArray) (w : World) (hs : s.size ≤ 9223372036854775807) :
    Calls Tryz.prog 107 #[.string s] w fun e w' => e = .returned (.int .i64 (Cd.cnt (Cd.bs s) : Nat)) ∧ w = w' := by
  have hb := Cd.get_bt s
  go_enter Tryz.func107, Tryz.ntmps107
  go_wp2
  go_loop [3, 4] (fun n i => ∃ k m : Nat, k ≤ s.size ∧ m ≤ k ∧ i = .int .i64 k ∧ n = .int .i64 (m : Int) ∧ Hid (Cd.cnt ((Cd.bs s).take k) = m)) (fun _ i => s.size - (intOf i).toNat)
  case atStart => exact ⟨0, 0, by omega, by omega, rfl, rfl, show _ = _ by simp [Cd.cnt]⟩
  case round =>
    obtain ⟨k, m, hk, hm, rfl, rfl, HK⟩ := hrel
    by_cases hlt : k < s.size
    · have h1 := Cd.cnt_step hlt
      rw [HK.out] at h1
      cases hL : Cd.isL (Cd.bt s k) with
      | true =>
        rw [hL, if_pos rfl] at h1
        have HN := Lib.hid h1
        clear h1
        go_wp2_with (go_at_call 108; refine (rletter_any _ _).mono ?_; rintro e w' ⟨rfl, rfl⟩)
        go_round
        case rel => exact ⟨k + 1, m + 1, by omega, by omega, by go_num, by go_num, HN⟩
        case measure => simp [intOf]; omega
      | false =>
        rw [hL, if_neg (by decide)] at h1
        have HN := Lib.hid h1
        clear h1
        go_wp2_with (go_at_call 108; refine (rletter_any _ _).mono ?_; rintro e w' ⟨rfl, rfl⟩)
        go_round
        case rel => exact ⟨k + 1, m, by omega, by omega, by go_num, rfl, HN⟩
        case measure => simp [intOf]; omega
    · have h0 := HK.out
      rw [show k = s.size by omega, Cd.take_all] at h0
      have HN := Lib.hid h0
      clear h0
      go_wp2
      go_ret
      exact ⟨by rw [HN.out]; rfl, rfl⟩
end Go.Proofs.YtmcekicaigbccaaGreat
