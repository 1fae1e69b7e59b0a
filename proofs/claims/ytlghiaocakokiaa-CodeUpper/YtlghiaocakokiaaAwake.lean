/- Contracts of the statements' own helpers: awake answers true, long tells more than 20000 bytes. -/
import Derived.Test.YtlghiaocakokiaaMore
import Derived.Test.YtlghiaocakokiaaRup
namespace Go.Proofs.Ytlghiaocakokiaa
open Go.RowKit
set_option linter.unusedVariables false

theorem own : ownKnob Try.prog.godebug = none := by kernel_rfl
theorem laidOut : laidOutB Try.prog = true := by kernel_rfl

theorem long_yes (s : ByteArray) (w : World) (h : s.size ≤ 9223372036854775807) (hn : 20000 < s.size) :
    Calls Try.prog 8 #[.string s] w fun e w' => e = .returned (.bool true) ∧ w = w' := by
  have t1 : decide ((20000 : Int) < (s.size : Int)) = true := decide_eq_true (by omega)
  go_enter Try.func8, Try.ntmps8
  go_wp2
  go_ret
  exact ⟨by simp, rfl⟩
theorem long_no (s : ByteArray) (w : World) (hn : s.size ≤ 20000) :
    Calls Try.prog 8 #[.string s] w fun e w' => e = .returned (.bool false) ∧ w = w' := by
  go_enter Try.func8, Try.ntmps8
  go_wp2
  go_ret
  exact ⟨by simp; omega, rfl⟩

theorem city_lit (w : World) : Calls Try.prog 9 #[.string ⟨#[76, 79, 78]⟩] w fun e w' => e = .returned (.bool true) ∧ w = w' := by
  have h := city_any ⟨#[76, 79, 78]⟩ w (by decide)
  rwa [show Cd.city ⟨#[76, 79, 78]⟩ = true by decide +kernel] at h
theorem carrier_lit (w : World) : Calls Try.prog 11 #[.string ⟨#[55, 85]⟩] w fun e w' => e = .returned (.bool true) ∧ w = w' := by
  have h := carrier_any ⟨#[55, 85]⟩ w (by decide)
  rwa [show Cd.carrier ⟨#[55, 85]⟩ = true by decide +kernel] at h
theorem agent_lit (w : World) : Calls Try.prog 13 #[.string ⟨#[65, 49]⟩] w fun e w' => e = .returned (.bool true) ∧ w = w' := by
  have h := agent_any ⟨#[65, 49]⟩ w (by decide)
  rwa [show Cd.agent ⟨#[65, 49]⟩ = true by decide +kernel] at h
theorem person_lit (w : World) : Calls Try.prog 15 #[.string ⟨#[79]⟩] w fun e w' => e = .returned (.bool true) ∧ w = w' := by
  have h := person_any ⟨#[79]⟩ w (by decide)
  rwa [show Cd.person ⟨#[79]⟩ = true by decide +kernel] at h
theorem class_lit (w : World) : Calls Try.prog 23 #[.int .u8 89] w fun e w' => e = .returned (.bool true) ∧ w = w' := by
  have h := class_any 89 w
  rwa [show Cd.isL 89 = true by decide +kernel] at h
theorem locator_lit (w : World) : Calls Try.prog 17 #[.string ⟨#[65, 66, 67, 68, 69, 70]⟩] w fun e w' => e = .returned (.bool true) ∧ w = w' := by
  have h := locator_any ⟨#[65, 66, 67, 68, 69, 70]⟩ w (by decide)
  rwa [show Cd.locator ⟨#[65, 66, 67, 68, 69, 70]⟩ = true by decide +kernel] at h
theorem free_lit (w : World) : Calls Try.prog 19 #[.string ⟨#[65, 32, 66]⟩] w fun e w' => e = .returned (.bool true) ∧ w = w' := by
  have h := free_any ⟨#[65, 32, 66]⟩ w (by decide)
  rwa [show Cd.free (Cd.bs ⟨#[65, 32, 66]⟩) = true by decide +kernel] at h
theorem upper_lit (w : World) : Calls Try.prog 21 #[.string ⟨#[97, 49]⟩] w fun e w' => e = .returned (.string ⟨#[65, 49]⟩) ∧ Below w.heap.size w w' := by
  have h := upper_any ⟨#[97, 49]⟩ w (by decide)
  rwa [show Cd.upper ⟨#[97, 49]⟩ = ⟨#[65, 49]⟩ by apply ByteArray.ext; decide +kernel] at h

theorem awake_any (w : World) : Calls Try.prog 7 #[] w fun e w' => e = .returned (.bool true) ∧ Below w.heap.size w w' := by
  go_enter Try.func7, Try.ntmps7
  go_wp2_with (first
    | (go_at_call 9; refine (city_lit _).mono ?_; rintro e w' ⟨rfl, rfl⟩)
    | (go_at_call 11; refine (carrier_lit _).mono ?_; rintro e w' ⟨rfl, rfl⟩)
    | (go_at_call 13; refine (agent_lit _).mono ?_; rintro e w' ⟨rfl, rfl⟩)
    | (go_at_call 15; refine (person_lit _).mono ?_; rintro e w' ⟨rfl, rfl⟩)
    | (go_at_call 23; refine (class_lit _).mono ?_; rintro e w' ⟨rfl, rfl⟩)
    | (go_at_call 17; refine (locator_lit _).mono ?_; rintro e w' ⟨rfl, rfl⟩)
    | (go_at_call 19; refine (free_lit _).mono ?_; rintro e w' ⟨rfl, rfl⟩)
    | (go_at_call 21; refine (upper_lit _).mono ?_; rintro e w1 ⟨rfl, hb1⟩))
  go_ret
  exact ⟨rfl, hb1⟩
end Go.Proofs.Ytlghiaocakokiaa
