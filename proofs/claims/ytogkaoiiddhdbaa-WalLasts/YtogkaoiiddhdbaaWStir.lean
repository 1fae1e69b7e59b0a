/- Contract of stir: eight steps of the check sum. -/
import Derived.Test.YtogkaoiiddhdbaaRows
import Derived.WalkKit
import Derived.ProofKit
import Derived.Below
import Derived.Laws.BitsAllLaws
import Derived.Test.YtogkaoiiddhdbaaWPlain
namespace Go.Proofs.Ytogkaoiiddhdbaa
open Go.RowKit

namespace Wd
theorem ret_int {k : IntKind} {a b : Int} (h : a = b) : Ending.returned (.int k a) = .returned (.int k b) := by rw [h]
theorem val_int {k : IntKind} {a b : Int} (h : a = b) : Value.int k a = .int k b := by rw [h]
theorem and_ones32 (x : Nat) (h : x < 4294967296) : x &&& 4294967295 = x := by
  have := Nat.and_two_pow_sub_one_eq_mod x 32
  simp only [Nat.reducePow, Nat.reduceSub] at this
  rw [this]
  exact Nat.mod_eq_of_lt h
theorem step_bits (s : Nat) (h : s < 4294967296) :
    bits .xor .u32 ((s : Int) / 2) (bits .and .u32 3988292384 (-bits .and .u32 (s : Int) 1 % 4294967296)) = ((step s : Nat) : Int) := by
  rw [u32_and (s : Int) 1 (by omega) (by omega) (by omega) (by omega), show (1 : Int).toNat = 1 from rfl, Int.toNat_natCast, nat_mask1]
  unfold step
  by_cases h1 : s % 2 = 1
  · rw [if_pos h1, h1]
    rw [show (-((1 : Nat) : Int) % 4294967296) = 4294967295 from by decide]
    rw [u32_and _ _ (by omega) (by omega) (by omega) (by omega), show (3988292384 : Int).toNat = 3988292384 from rfl, show (4294967295 : Int).toNat = 4294967295 from rfl, and_ones32 _ (by omega)]
    rw [u32_xor _ _ (by omega) (by omega) (by omega) (by omega)]
    rw [show ((s : Int) / 2).toNat = s / 2 from by omega]
    rfl
  · rw [if_neg h1, show s % 2 = 0 from by omega]
    rw [show (-((0 : Nat) : Int) % 4294967296) = 0 from by decide]
    rw [u32_and _ _ (by omega) (by omega) (by omega) (by omega), show (0 : Int).toNat = 0 from rfl, Nat.and_zero]
    rw [u32_xor _ _ (by omega) (by omega) (by omega) (by omega)]
    rw [show (((0 : Nat) : Int)).toNat = 0 from rfl, Nat.xor_zero]
    omega
end Wd

theorem stir_any (x : Nat) (w : World) (hx : x < 4294967296) :
    Calls Try.prog 100 #[.int .u32 (x : Int)] w fun e w' => e = .returned (.int .u32 ((Wd.steps 8 x : Nat) : Int)) ∧ w = w' := by
  go_enter Try.func100, Try.ntmps100
  go_wp2
  go_loop [0, 3] (fun s i => ∃ k : Nat, k ≤ 8 ∧ i = .int .i64 k ∧ s = .int .u32 ((Wd.steps k x : Nat) : Int)) (fun _ i => 8 - (intOf i).toNat)
  case atStart => exact ⟨0, by omega, rfl, rfl⟩
  case round =>
    obtain ⟨k, hk, rfl, rfl⟩ := hrel
    have hb := Wd.steps_lt k hx
    by_cases hlt : k < 8
    · go_wp2
      go_round
      case rel => exact ⟨k + 1, by omega, by go_num, Wd.val_int (Wd.step_bits _ hb)⟩
      case measure => simp [intOf]; omega
    · go_wp2
      go_ret
      exact ⟨Wd.ret_int (by rw [show k = 8 by omega]), rfl⟩
end Go.Proofs.Ytogkaoiiddhdbaa
