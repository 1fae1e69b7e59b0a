/- Contracts of package locator's functions and of the document's. -/
import Derived.Test.YtnkplbpaobggkaaLcPure
import Derived.Test.YtnkplbpaobggkaaCdUp
import Derived.Test.YtnkplbpaobggkaaCdRup
namespace Go.Proofs.Ytnkplbpaobggkaa
open Go.RowKit
set_option linter.unusedVariables false

theorem scatter_any (n : Nat) (w : World) (h : n < 308915776) : Calls Try.prog 14 #[.int .u32 (n : Int)] w fun e w' => e = .returned (.int .u32 (Lc.sc n : Int)) ∧ w = w' := by
  go_enter Try.func14, Try.ntmps14
  go_wp2
  go_ret
  exact ⟨Cd.ret_val (Cd.val_int (by unfold Lc.sc; omega)), rfl⟩
theorem gather_any (n : Nat) (w : World) (h : n < 308915776) : Calls Try.prog 16 #[.int .u32 (n : Int)] w fun e w' => e = .returned (.int .u32 (Lc.ga n : Int)) ∧ w = w' := by
  go_enter Try.func16, Try.ntmps16
  go_wp2
  go_ret
  exact ⟨Cd.ret_val (Cd.val_int (by unfold Lc.ga; omega)), rfl⟩
theorem value_any (s : ByteArray) (w : World) (h : Cd.locator s = true) : Calls Try.prog 17 #[.string s] w fun e w' => e = .returned (.int .u32 (Lc.vl (Cd.bs s) : Int)) ∧ w = w' := by
  have hb := Cd.get_bt s
  have hs := Lc.loc_size h
  have HB : Hid (∀ k, k < 6 → 65 ≤ Cd.bt s k ∧ Cd.bt s k ≤ 90) := fun k hk => Lc.loc_bt h k hk
  have HS : Hid (∀ k, k < 6 → Lc.vl ((Cd.bs s).take (k + 1)) = Lc.vl ((Cd.bs s).take k) * 26 + (Cd.bt s k - 65).toNat) := fun k hk => Lc.vl_step s k (by omega)
  have HA : Hid ((Cd.bs s).take 6 = Cd.bs s) := show _ = _ by rw [← hs]; exact Cd.take_all s
  clear h
  go_enter Try.func17, Try.ntmps17
  go_wp2
  go_loop [3, 7] (fun v i => ∃ k m : Nat, k ≤ 6 ∧ i = .int .i64 k ∧ v = .int .u32 (m : Int) ∧ Hid (m < 26 ^ k) ∧ Hid (Lc.vl ((Cd.bs s).take k) = m)) (fun _ i => 6 - (intOf i).toNat)
  case atStart => exact ⟨0, 0, by omega, rfl, rfl, show _ < _ by decide, show _ = _ by simp [Lc.vl]⟩
  case round =>
    obtain ⟨k, m, hk, rfl, rfl, HM, HK⟩ := hrel
    by_cases hlt : k < 6
    · obtain ⟨b1, b2⟩ := HB.out k hlt
      have h1 := HS.out k hlt
      rw [HK.out] at h1
      have hm : m < 11881376 := Nat.lt_of_lt_of_le HM.out (Nat.pow_le_pow_right (n := 26) (by decide) (show k ≤ 5 by omega))
      have HN := Lib.hid h1
      have HM2 : Hid (m * 26 + (Cd.bt s k - 65).toNat < 26 ^ (k + 1)) := show _ < _ by
        have := HM.out
        rw [Nat.pow_succ]; omega
      clear h1
      go_wp2
      go_round
      case rel => exact ⟨k + 1, m * 26 + (Cd.bt s k - 65).toNat, by omega, by go_num, Cd.val_int (by omega), HM2, HN⟩
      case measure => simp [intOf]; omega
    · have hk6 : k = 6 := by omega
      have h0 := HK.out
      rw [hk6, HA.out] at h0
      have HN := Lib.hid h0
      clear h0
      go_wp2
      go_ret
      exact ⟨by rw [HN.out]; rfl, rfl⟩
theorem spell_any (v : Nat) (w : World) (h : v < 308915776) : Calls Try.prog 13 #[.int .u32 (v : Int)] w fun e w' => e = .returned (.string (Lc.spell v)) ∧ Below w.heap.size w w' := by
  go_enter Try.func13, Try.ntmps13
  go_wp2
  go_loopw [0, 4] (fun x i wr => ∃ k m : Nat, k ≤ 6 ∧ m < 308915776 ∧ i = .int .i64 (5 - (k : Int)) ∧ x = .int .u32 (m : Int) ∧ Hid (v / 26 ^ k = m) ∧ Hid (Cd.Brow wr w.heap.size (Lc.row v k)) ∧ Below w.heap.size w wr) (fun _ i _ => (intOf i + 1).toNat)
  case atStart =>
    refine ⟨0, v, by omega, h, rfl, rfl, show _ = _ by simp, ?_, (Below.refl _ _).alloc (Nat.le_refl _) _⟩
    rw [Lc.row_zero]
    intro j hj
    have hh := heap_alloc_new w (.cells #[.int .u8 0, .int .u8 0, .int .u8 0, .int .u8 0, .int .u8 0, .int .u8 0] 41)
    refine ⟨?_, ?_⟩
    · rcases (show j = 0 ∨ j = 1 ∨ j = 2 ∨ j = 3 ∨ j = 4 ∨ j = 5 by simp at hj; omega) with rfl | rfl | rfl | rfl | rfl | rfl <;> exact (cell_of_row _ w.heap.size _ _ _ _ hh).trans rfl
    · unfold World.frozen?
      rw [hh]
      simp
  case round =>
    obtain ⟨k, m, hk, hm, rfl, rfl, HM, HK, hbr⟩ := hrel
    by_cases hlt : k < 6
    · obtain ⟨hc, hf⟩ := HK.out (5 - k) (by rw [Lc.row_len]; omega)
      have h3 := HK.out.set (5 - k) (by rw [Lc.row_len]; omega) (Lc.dg v (5 - k))
      rw [Lc.row_succ v k hlt, Lc.dg_step v k hlt, HM.out] at h3
      have HN := Lib.hid h3
      have hp := Lc.pow_step v k
      rw [HM.out] at hp
      have HP := Lib.hid hp.symm
      generalize (Lc.row v k)[5 - k]'_ = old at *
      generalize hj : 5 - k = j at *
      have hbn := hbr.setCell (p := ⟨w.heap.size, j, none⟩) (Nat.le_refl _) (.int .u8 (65 + (m : Int) % 26))
      have e5 : (5 : Int) - (k : Int) = (j : Int) := by omega
      rw [e5]
      have HE := Lib.hid e5
      have HJ := Lib.hid hj
      have hj6 : j < 6 := by omega
      clear h3 hp hj e5
      go_wp2
      go_roundw
      case rel => exact ⟨k + 1, m / 26, by omega, by omega, Cd.val_int (by have := HE.out; omega), by go_num, HP, HN, hbn⟩
      case measure => simp [intOf] <;> omega
    · have hk6 : k = 6 := by omega
      subst hk6
      have hcv := HK.out.conv 6
      rw [Lc.row_all, Lc.sp_len] at hcv
      go_wp2
      go_ret
      exact ⟨rfl, hbr⟩

theorem text_yes (n : Nat) (w : World) (h : n < 308915776) : Calls Try.prog 8 #[.int .i64 (n : Int)] w fun e w' => e = .returned (.tuple #[.string (Lc.loc n), .int .i64 0]) ∧ Below w.heap.size w w' := by
  go_enter Try.func8, Try.ntmps8
  go_wp2_with (first
    | (go_at_call 14; refine (scatter_any n _ h).mono ?_; rintro e w' ⟨rfl, rfl⟩)
    | (go_at_call 13; refine (spell_any (Lc.sc n) _ (Lc.sc_lt n)).mono ?_; rintro e w1 ⟨rfl, hb1⟩))
  go_ret2
  exact ⟨rfl, hb1⟩
theorem text_no (n : Int) (w : World) (h : ¬ (0 ≤ n ∧ n < 308915776)) : Calls Try.prog 8 #[.int .i64 n] w fun e w' => e = .returned (.tuple #[.string ⟨#[]⟩, .int .i64 1]) ∧ w = w' := by
  rcases (show n < 0 ∨ (0 ≤ n ∧ 308915776 ≤ n) by omega) with h1 | ⟨h1, h2⟩
  all_goals clear h
  all_goals go_enter Try.func8, Try.ntmps8
  all_goals go_wp2
  all_goals go_ret2
  all_goals exact ⟨rfl, rfl⟩
theorem number_yes (s : ByteArray) (w : World) (h : Cd.locator s = true) : Calls Try.prog 10 #[.string s] w fun e w' => e = .returned (.tuple #[.int .i64 (Lc.num s : Int), .bool true]) ∧ w = w' := by
  have HL := locator_any s w (by rw [Lc.loc_size h]; omega)
  rw [h] at HL
  have HV := Lc.vl_lt h
  have hg := Lc.ga_lt (Lc.vl (Cd.bs s))
  have HE : Hid (Lc.num s = Lc.ga (Lc.vl (Cd.bs s))) := show _ = _ by unfold Lc.num; rfl
  go_enter Try.func10, Try.ntmps10
  go_wp2_with (first
    | (go_at_call 15; refine HL.mono ?_; rintro e w' ⟨rfl, rfl⟩)
    | (go_at_call 17; refine (value_any s _ h).mono ?_; rintro e w' ⟨rfl, rfl⟩)
    | (go_at_call 16; refine (gather_any _ _ HV).mono ?_; rintro e w' ⟨rfl, rfl⟩))
  go_ret2
  exact ⟨by rw [HE.out]; rfl, rfl⟩
theorem number_no (s : ByteArray) (w : World) (hs : s.size ≤ 9223372036854775807) (h : Cd.locator s = false) : Calls Try.prog 10 #[.string s] w fun e w' => e = .returned (.tuple #[.int .i64 0, .bool false]) ∧ w = w' := by
  have HL := locator_any s w hs
  rw [h] at HL
  go_enter Try.func10, Try.ntmps10
  go_wp2_with (go_at_call 15; refine HL.mono ?_; rintro e w' ⟨rfl, rfl⟩)
  go_ret2
  exact ⟨rfl, rfl⟩
theorem is_any (s : ByteArray) (w : World) (hs : s.size ≤ 9223372036854775807) : Calls Try.prog 11 #[.string s] w fun e w' => e = .returned (.bool (Cd.locator s)) ∧ w = w' := by
  go_enter Try.func11, Try.ntmps11
  go_wp2_with (go_at_call 18; refine (rlocator_any s _ hs).mono ?_; rintro e w' ⟨rfl, rfl⟩)
  go_ret
  exact ⟨rfl, rfl⟩
theorem rtext_no (n : Int) (w : World) (h : ¬ (0 ≤ n ∧ n < 308915776)) : Calls Try.prog 9 #[.int .i64 n] w fun e w' => e = .returned (.tuple #[.string ⟨#[]⟩, .int .i64 1]) ∧ w = w' := by
  rcases (show n < 0 ∨ (0 ≤ n ∧ 308915776 ≤ n) by omega) with h1 | ⟨h1, h2⟩
  all_goals clear h
  all_goals go_enter Try.func9, Try.ntmps9
  all_goals go_wp2
  all_goals go_ret2
  all_goals exact ⟨rfl, rfl⟩
theorem rtext_yes (n : Nat) (w : World) (h : n < 308915776) : Calls Try.prog 9 #[.int .i64 (n : Int)] w fun e w' => e = .returned (.tuple #[.string (Lc.loc n), .int .i64 0]) ∧ Below w.heap.size w w' := by
  have hx : ((n : Int) * 123456789 + 98765432) % 308915776 = (Lc.sc n : Int) := by unfold Lc.sc; omega
  have HSL := Lib.hid (Lc.sc_lt n)
  have HE : Hid (Lc.loc n = Lc.spell (Lc.sc n)) := show _ = _ by unfold Lc.loc; rfl
  generalize Lc.sc n = v at *
  go_enter Try.func9, Try.ntmps9
  go_wp2
  go_loopw [4, 5, 6] (fun x s i wr => ∃ (k m : Nat) (S : ByteArray), k ≤ 6 ∧ m < 308915776 ∧ S.size = k ∧ i = .int .i64 (k : Int) ∧ s = .string S ∧ x = .int .u64 (m : Int) ∧ Hid (v / 26 ^ k = m) ∧ Hid (S = ⟨((Lc.sp v).drop (6 - k)).toArray⟩) ∧ Below w.heap.size w wr) (fun _ _ i _ => 6 - (intOf i).toNat)
  case atStart => exact ⟨0, v, ⟨#[]⟩, by omega, HSL.out, rfl, rfl, rfl, Cd.val_int (by omega), show _ = _ by simp, show _ = _ by simp [Lc.sp_len], Below.refl _ _⟩
  case round =>
    obtain ⟨k, m, S, hk, hm, hS, rfl, rfl, rfl, HM, HS, hbr⟩ := hrel
    by_cases hlt : k < 6
    · have hp := Lc.pow_step v k
      rw [HM.out] at hp
      have HP := Lib.hid hp.symm
      have hd := Lc.dg_step v k hlt
      rw [HM.out] at hd
      have HN : Hid ((⟨#[Lc.dg v (5 - k)]⟩ : ByteArray) ++ S = ⟨((Lc.sp v).drop (6 - (k + 1))).toArray⟩) := show _ = _ by
        rw [HS.out, ← Lc.sp_drop v k hlt]
        apply ByteArray.ext
        simp
      generalize Lc.dg v (5 - k) = c at *
      have hcv : ∀ w2 : World, (convert 39 9 (.slice (some ⟨w2.heap.size, 0, none⟩) 1 1)).run Try.prog (w2.alloc (.cells #[.int .u8 (65 + (m : Int) % 26)] 5)) = .ok (.string ⟨#[c]⟩) (w2.alloc (.cells #[.int .u8 (65 + (m : Int) % 26)] 5)) := fun w2 =>
        Cd.conv (Cd.bts_one w2 _ c hd.symm) 1
      have hz : (⟨#[c]⟩ : ByteArray).size = 1 := rfl
      have hbn := hbr.alloc hbr.size (.cells #[.int .u8 (65 + (m : Int) % 26)] 5)
      have HZ : Hid (((⟨#[c]⟩ : ByteArray) ++ S).size = k + 1) := show _ = _ by rw [ByteArray.size_append, hS, hz]; omega
      clear hp hd
      go_wp2
      go_roundw
      case rel => exact ⟨k + 1, m / 26, _, by omega, by omega, HZ.out, by go_num, rfl, by go_num, HP, HN, hbn⟩
      case measure => simp [intOf]; omega
    · have hk6 : k = 6 := by omega
      subst hk6
      have HF : Hid (Lc.loc n = S) := show _ = _ by rw [HE.out, HS.out]; rfl
      go_wp2
      go_ret2
      exact ⟨by rw [HF.out]; rfl, hbr⟩
end Go.Proofs.Ytnkplbpaobggkaa
