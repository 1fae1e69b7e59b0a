/- Days, minutes and moments as numbers: contracts of the functions that only reckon; no conditions. -/
import Derived.Test.YtmcekicaigbccaaGreatRows
import Derived.WalkKit
import Derived.ProofKit
import Derived.OpenShut
import Derived.ShutString
import Derived.ChangeOld
import Derived.Below
import Derived.OwnWalk
import Derived.Lib.Hide
namespace Go.Proofs.YtmcekicaigbccaaGreat
open Go.RowKit

namespace Dt
def isDay (d : Int) : Bool := decide (0 ≤ d) && decide (d < 366)
def isMin (d : Int) : Bool := decide (0 ≤ d) && decide (d < 1440)
end Dt

theorem isDay_any (d : Int) (w : World) : Calls Tryz.prog 118 #[.int .i64 d] w fun e w' => e = .returned (.bool (Dt.isDay d)) ∧ w = w' := by
  go_enter Tryz.func118, Tryz.ntmps118
  go_wp2
  all_goals go_ret
  all_goals exact ⟨by simp [Dt.isDay, *] <;> omega, rfl⟩
theorem isMin_any (d : Int) (w : World) : Calls Tryz.prog 134 #[.int .i64 d] w fun e w' => e = .returned (.bool (Dt.isMin d)) ∧ w = w' := by
  go_enter Tryz.func134, Tryz.ntmps134
  go_wp2
  all_goals go_ret
  all_goals exact ⟨by simp [Dt.isMin, *] <;> omega, rfl⟩
theorem isDay_yes (d : Int) (w : World) (h1 : 0 ≤ d) (h2 : d < 366) : Calls Tryz.prog 118 #[.int .i64 d] w fun e w' => e = .returned (.bool true) ∧ w = w' := by
  have := isDay_any d w
  rwa [show Dt.isDay d = true by simp [Dt.isDay, *]] at this
theorem isDay_no (d : Int) (w : World) (h : ¬ (0 ≤ d ∧ d < 366)) : Calls Tryz.prog 118 #[.int .i64 d] w fun e w' => e = .returned (.bool false) ∧ w = w' := by
  have := isDay_any d w
  rwa [show Dt.isDay d = false by simp [Dt.isDay]; omega] at this
theorem isMin_yes (d : Int) (w : World) (h1 : 0 ≤ d) (h2 : d < 1440) : Calls Tryz.prog 134 #[.int .i64 d] w fun e w' => e = .returned (.bool true) ∧ w = w' := by
  have := isMin_any d w
  rwa [show Dt.isMin d = true by simp [Dt.isMin, *]] at this
theorem isMin_no (d : Int) (w : World) (h : ¬ (0 ≤ d ∧ d < 1440)) : Calls Tryz.prog 134 #[.int .i64 d] w fun e w' => e = .returned (.bool false) ∧ w = w' := by
  have := isMin_any d w
  rwa [show Dt.isMin d = false by simp [Dt.isMin]; omega] at this

theorem weekday_yes (d : Int) (w : World) (h1 : 0 ≤ d) (h2 : d < 366) : Calls Tryz.prog 89 #[.int .i64 d] w fun e w' => e = .returned (.int .i64 (d % 7 + 1)) ∧ w = w' := by
  go_enter Tryz.func89, Tryz.ntmps89
  go_wp2_with (go_at_call 118; refine (isDay_yes _ _ h1 h2).mono ?_; rintro e w' ⟨rfl, rfl⟩)
  go_ret
  exact ⟨by go_num, rfl⟩
theorem weekday_no (d : Int) (w : World) (h : ¬ (0 ≤ d ∧ d < 366)) : Calls Tryz.prog 89 #[.int .i64 d] w fun e w' => e = .returned (.int .i64 0) ∧ w = w' := by
  have H := Lib.hid h
  clear h
  go_enter Tryz.func89, Tryz.ntmps89
  go_wp2_with (go_at_call 118; refine (isDay_no _ _ H.out).mono ?_; rintro e w' ⟨rfl, rfl⟩)
  go_ret
  exact ⟨rfl, rfl⟩
theorem rweekday_yes (d : Int) (w : World) (h1 : 0 ≤ d) (h2 : d < 366) : Calls Tryz.prog 86 #[.int .i64 d] w fun e w' => e = .returned (.int .i64 (d % 7 + 1)) ∧ w = w' := by
  go_enter Tryz.func86, Tryz.ntmps86
  go_wp2
  go_ret
  exact ⟨by go_num, rfl⟩
theorem rweekday_no (d : Int) (w : World) (h : ¬ (0 ≤ d ∧ d < 366)) : Calls Tryz.prog 86 #[.int .i64 d] w fun e w' => e = .returned (.int .i64 0) ∧ w = w' := by
  rcases (show d < 0 ∨ (0 ≤ d ∧ 366 ≤ d) by omega) with h | ⟨h1, h2⟩
  · go_enter Tryz.func86, Tryz.ntmps86
    go_wp2
    go_ret
    exact ⟨rfl, rfl⟩
  · clear h
    go_enter Tryz.func86, Tryz.ntmps86
    go_wp2
    go_ret
    exact ⟨rfl, rfl⟩
theorem join_yes (d m : Int) (w : World) (h1 : 0 ≤ d) (h2 : d < 366) (h3 : 0 ≤ m) (h4 : m < 1440) : Calls Tryz.prog 122 #[.int .i64 d, .int .i64 m] w fun e w' => e = .returned (.tuple #[.int .i64 (d * 1440 + m), .int .i64 0]) ∧ w = w' := by
  go_enter Tryz.func122, Tryz.ntmps122
  go_wp2_with (first
    | (go_at_call 118; refine (isDay_yes _ _ h1 h2).mono ?_; rintro e w' ⟨rfl, rfl⟩)
    | (go_at_call 134; refine (isMin_yes _ _ h3 h4).mono ?_; rintro e w' ⟨rfl, rfl⟩))
  go_ret2
  exact ⟨by go_num, rfl⟩
theorem join_no (d m : Int) (w : World) (h : ¬ (0 ≤ d ∧ d < 366 ∧ 0 ≤ m ∧ m < 1440)) : Calls Tryz.prog 122 #[.int .i64 d, .int .i64 m] w fun e w' => e = .returned (.tuple #[.int .i64 0, .int .i64 1]) ∧ w = w' := by
  by_cases hd : 0 ≤ d ∧ d < 366
  · obtain ⟨h1, h2⟩ := hd
    have H : Hid (¬ (0 ≤ m ∧ m < 1440)) := show ¬ _ by omega
    clear h
    go_enter Tryz.func122, Tryz.ntmps122
    go_wp2_with (first
      | (go_at_call 118; refine (isDay_yes _ _ h1 h2).mono ?_; rintro e w' ⟨rfl, rfl⟩)
      | (go_at_call 134; refine (isMin_no _ _ H.out).mono ?_; rintro e w' ⟨rfl, rfl⟩))
    go_ret2
    exact ⟨rfl, rfl⟩
  · have H := Lib.hid hd
    clear h hd
    go_enter Tryz.func122, Tryz.ntmps122
    go_wp2_with (go_at_call 118; refine (isDay_no _ _ H.out).mono ?_; rintro e w' ⟨rfl, rfl⟩)
    go_ret2
    exact ⟨rfl, rfl⟩
end Go.Proofs.YtmcekicaigbccaaGreat
