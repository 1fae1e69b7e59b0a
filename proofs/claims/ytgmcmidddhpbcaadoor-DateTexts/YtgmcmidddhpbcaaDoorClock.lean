/- The time of a day: contracts of Clock and of the document's Clock. -/
import Derived.Test.YtgmcmidddhpbcaaDoorLeaf
namespace Go.Proofs.YtgmcmidddhpbcaaDoor
open Go.RowKit
set_option linter.unusedVariables false

namespace Dt
/-- The text of a minute of a day. -/
def clk (n : Nat) : ByteArray := two (n / 60) ++ two (n % 60)
end Dt
theorem pair_at (x : Int) (n : Nat) (w : World) (hx : x = (n : Int)) (h : n < 100) : Calls Tryd.prog 23 #[.int .i64 x] w fun e w' => e = .returned (.string (Dt.two n)) ∧ Below w.heap.size w w' := by
  subst hx; exact pair_any n w h
theorem rtwo_at (x : Int) (n : Nat) (w : World) (hx : x = (n : Int)) (h : n < 100) : Calls Tryd.prog 26 #[.int .i64 x] w fun e w' => e = .returned (.string (Dt.two n)) ∧ Below w.heap.size w w' := by
  subst hx; exact rtwo_any n w h

theorem clock_yes (n : Nat) (w : World) (h : n < 1440) : Calls Tryd.prog 11 #[.int .i64 (n : Int)] w fun e w' => e = .returned (.tuple #[.string (Dt.clk n), .int .i64 0]) ∧ Below w.heap.size w w' := by
  go_enter Tryd.func11, Tryd.ntmps11
  go_wp2_with (first
    | (go_at_call 27; refine (isMin_yes _ _ (by omega) (by omega)).mono ?_; rintro e w' ⟨rfl, rfl⟩)
    | (go_at_call 23; refine (pair_at _ (n / 60) _ (by omega) (by omega)).mono ?_; rintro e w1 ⟨rfl, hb1⟩)
    | (go_at_call 23; refine (pair_at _ (n % 60) _ (by omega) (by omega)).mono ?_; rintro e w2 ⟨rfl, hb2⟩))
  go_ret2
  exact ⟨rfl, hb1.trans (hb2.mono hb1.size)⟩
theorem clock_no (n : Int) (w : World) (h : ¬ (0 ≤ n ∧ n < 1440)) : Calls Tryd.prog 11 #[.int .i64 n] w fun e w' => e = .returned (.tuple #[.string ⟨#[]⟩, .int .i64 1]) ∧ w = w' := by
  have H := Lib.hid h
  clear h
  go_enter Tryd.func11, Tryd.ntmps11
  go_wp2_with (go_at_call 27; refine (isMin_no _ _ H.out).mono ?_; rintro e w' ⟨rfl, rfl⟩)
  go_ret2
  exact ⟨rfl, rfl⟩
theorem rclock_yes (n : Nat) (w : World) (h : n < 1440) : Calls Tryd.prog 12 #[.int .i64 (n : Int)] w fun e w' => e = .returned (.tuple #[.string (Dt.clk n), .int .i64 0]) ∧ Below w.heap.size w w' := by
  go_enter Tryd.func12, Tryd.ntmps12
  go_wp2_with (first
    | (go_at_call 26; refine (rtwo_at _ (n / 60) _ (by omega) (by omega)).mono ?_; rintro e w1 ⟨rfl, hb1⟩)
    | (go_at_call 26; refine (rtwo_at _ (n % 60) _ (by omega) (by omega)).mono ?_; rintro e w2 ⟨rfl, hb2⟩))
  go_ret2
  exact ⟨rfl, hb1.trans (hb2.mono hb1.size)⟩
theorem rclock_no (n : Int) (w : World) (h : ¬ (0 ≤ n ∧ n < 1440)) : Calls Tryd.prog 12 #[.int .i64 n] w fun e w' => e = .returned (.tuple #[.string ⟨#[]⟩, .int .i64 1]) ∧ w = w' := by
  rcases (show n < 0 ∨ (0 ≤ n ∧ 1440 ≤ n) by omega) with h1 | ⟨h1, h2⟩
  all_goals clear h
  all_goals go_enter Tryd.func12, Tryd.ntmps12
  all_goals go_wp2
  all_goals go_ret2
  all_goals exact ⟨rfl, rfl⟩
end Go.Proofs.YtgmcmidddhpbcaaDoor
