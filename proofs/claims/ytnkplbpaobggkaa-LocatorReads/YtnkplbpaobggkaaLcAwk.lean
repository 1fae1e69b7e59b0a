/- The statements' own helpers: awake, value. -/
import Derived.Test.YtnkplbpaobggkaaLcFn
namespace Go.Proofs.Ytnkplbpaobggkaa
open Go.RowKit
set_option linter.unusedVariables false

theorem own : ownKnob Try.prog.godebug = none := by kernel_rfl
theorem laidOut : laidOutB Try.prog = true := by kernel_rfl

theorem text_lit (w : World) : Calls Try.prog 8 #[.int .i64 1] w fun e w' => e = .returned (.tuple #[.string ⟨#[83, 83, 72, 78, 67, 78]⟩, .int .i64 0]) ∧ Below w.heap.size w w' := by
  have h := text_yes 1 w (by decide)
  rwa [show Lc.loc 1 = ⟨#[83, 83, 72, 78, 67, 78]⟩ by apply ByteArray.ext; decide +kernel] at h
theorem number_lit0 (w : World) (t : ByteArray) (ht : t = ⟨#[73, 73, 68, 73, 83, 77]⟩) : Calls Try.prog 10 #[.string t] w fun e w' => e = .returned (.tuple #[.int .i64 0, .bool true]) ∧ w = w' := by
  subst ht
  have h := number_yes ⟨#[73, 73, 68, 73, 83, 77]⟩ w (by decide +kernel)
  rwa [show Lc.num ⟨#[73, 73, 68, 73, 83, 77]⟩ = 0 by decide +kernel] at h
theorem number_lit1 (w : World) (t : ByteArray) (ht : t = ⟨#[83, 83, 72, 78, 67, 78]⟩) : Calls Try.prog 10 #[.string t] w fun e w' => e = .returned (.tuple #[.int .i64 1, .bool true]) ∧ w = w' := by
  subst ht
  have h := number_yes ⟨#[83, 83, 72, 78, 67, 78]⟩ w (by decide +kernel)
  rwa [show Lc.num ⟨#[83, 83, 72, 78, 67, 78]⟩ = 1 by decide +kernel] at h
theorem awake_any (w : World) : Calls Try.prog 7 #[] w fun e w' => e = .returned (.bool true) ∧ Below w.heap.size w w' := by
  go_enter Try.func7, Try.ntmps7
  go_wp2_with (first
    | (go_at_call 8; refine (text_lit _).mono ?_; rintro e w1 ⟨rfl, hb⟩)
    | (go_at_call 10; refine (number_lit0 _ _ (by with_reducible rfl)).mono ?_; rintro e w' ⟨rfl, rfl⟩)
    | (go_at_call 10; refine (number_lit1 _ _ (by with_reducible rfl)).mono ?_; rintro e w' ⟨rfl, rfl⟩))
  go_ret
  exact ⟨rfl, hb⟩
namespace Lc
def scI (x : Int) : Int := (x * 123456789 + 98765432) % 308915776
theorem scI_eq (n : Nat) : scI (n : Int) = (sc n : Int) := by unfold scI sc; omega
theorem scI_lo (x : Int) : 0 ≤ scI x := Int.emod_nonneg _ (by decide)
theorem scI_hi (x : Int) : scI x < 308915776 := Int.emod_lt_of_pos _ (by decide)
end Lc
theorem lvalue_any (x : Int) (w : World) (h0 : 0 ≤ x) (h1 : x < 308915776) : Calls Try.prog 12 #[.int .i64 x] w fun e w' => e = .returned (.int .i64 (Lc.scI x)) ∧ Below w.heap.size w w' := by
  obtain ⟨n, rfl⟩ : ∃ n : Nat, x = (n : Int) := ⟨x.toNat, by omega⟩
  have hn : n < 308915776 := by omega
  have HT := Lib.hid (fun w => text_yes n w hn)
  have hloc := Lc.loc_is n
  have HV : Hid (Lc.scI n = (Lc.vl (Cd.bs (Lc.loc n)) : Int)) := show _ = _ by rw [Lc.scI_eq, Lc.loc, Lc.vl_spell _ (Lc.sc_lt n)]
  generalize Lc.loc n = s at *
  have hb := Cd.get_bt s
  have hs := Lc.loc_size hloc
  have HB : Hid (∀ k, k < 6 → 65 ≤ Cd.bt s k ∧ Cd.bt s k ≤ 90) := fun k hk => Lc.loc_bt hloc k hk
  have HS : Hid (∀ k, k < 6 → Lc.vl ((Cd.bs s).take (k + 1)) = Lc.vl ((Cd.bs s).take k) * 26 + (Cd.bt s k - 65).toNat) := fun k hk => Lc.vl_step s k (by omega)
  have HA : Hid ((Cd.bs s).take 6 = Cd.bs s) := show _ = _ by rw [← hs]; exact Cd.take_all s
  clear hloc h0 h1
  go_enter Try.func12, Try.ntmps12
  go_wp2_with (go_at_call 8; refine (HT.out _).mono ?_; rintro e w1 ⟨rfl, hb1⟩)
  go_loop [5, 6] (fun v i => ∃ k m : Nat, k ≤ 6 ∧ i = .int .i64 k ∧ v = .int .i64 (m : Int) ∧ Hid (m < 26 ^ k) ∧ Hid (Lc.vl ((Cd.bs s).take k) = m)) (fun _ i => 6 - (intOf i).toNat)
  case atStart => exact ⟨0, 0, by omega, rfl, rfl, show _ < _ by decide, show _ = _ by simp [Lc.vl]⟩
  case round =>
    obtain ⟨k, m, hk, rfl, rfl, HM, HK⟩ := hrel
    by_cases hlt : k < 6
    · obtain ⟨b1, b2⟩ := HB.out k hlt
      have h1 := HS.out k hlt
      rw [HK.out] at h1
      have hm : m < 11881376 := Nat.lt_of_lt_of_le HM.out (Nat.pow_le_pow_right (n := 26) (by decide) (show k ≤ 5 by omega))
      have HN := Lib.hid h1
      have HM2 : Hid (m * 26 + (Cd.bt s k - 65).toNat < 26 ^ (k + 1)) := show _ < _ by
        have := HM.out
        rw [Nat.pow_succ]; omega
      clear h1
      go_wp2
      go_round
      case rel => exact ⟨k + 1, m * 26 + (Cd.bt s k - 65).toNat, by omega, by go_num, Cd.val_int (by omega), HM2, HN⟩
      case measure => simp [intOf]; omega
    · have hk6 : k = 6 := by omega
      have h0 := HK.out
      rw [hk6, HA.out] at h0
      have HN := Lib.hid h0
      clear h0
      go_wp2
      go_ret
      exact ⟨by rw [HV.out, HN.out]; rfl, hb1⟩
end Go.Proofs.Ytnkplbpaobggkaa
