/- Texts as rows of numbers: what is a letter, a digit, a free byte; contracts of the tests of one byte. -/
import Derived.Test.YtmcekicaigbccaaGreatRows
import Derived.WalkKit
import Derived.ProofKit
import Derived.OpenShut
import Derived.ShutString
import Derived.ChangeOld
import Derived.Below
import Derived.Lib.Hide
namespace Go.Proofs.YtmcekicaigbccaaGreat
open Go.RowKit

namespace Cd
/-- The bytes of a text as numbers. -/
def bs (s : ByteArray) : List Int := s.data.toList.map fun b => (b.toNat : Int)
/-- Byte k of a text; 0 behind its end. -/
def bt (s : ByteArray) (k : Nat) : Int := (bs s).getD k 0
def isL (c : Int) : Bool := decide (65 ≤ c) && decide (c ≤ 90)
def isD (c : Int) : Bool := decide (48 ≤ c) && decide (c ≤ 57)
def isM (c : Int) : Bool := isL c || isD c
def isF (c : Int) : Bool := isL c || isD c || c == 32 || c == 46 || c == 45 || c == 47

theorem length_bs (s : ByteArray) : (bs s).length = s.size := by simp [bs]
theorem get_bt (s : ByteArray) : ∀ (n : Nat) (h : n < s.size), ((s[n]'h).toNat : Int) = bt s n := fun n h => by
  have hl : n < (bs s).length := by rw [length_bs]; exact h
  unfold bt
  rw [List.getD_eq_getElem?_getD, List.getElem?_eq_getElem hl]
  simp [bs]
  rfl
theorem mem_bs {s : ByteArray} {c : Int} (h : c ∈ bs s) : 0 ≤ c ∧ c ≤ 255 := by
  obtain ⟨b, _, rfl⟩ := List.mem_map.1 h
  have := b.toNat_lt
  omega
theorem bt_mem (s : ByteArray) (k : Nat) (h : k < s.size) : bt s k ∈ bs s := by
  have hl : k < (bs s).length := by rw [length_bs]; exact h
  unfold bt
  rw [List.getD_eq_getElem?_getD, List.getElem?_eq_getElem hl]
  exact List.getElem_mem hl
theorem bt_lo (s : ByteArray) (k : Nat) : 0 ≤ bt s k := by
  rcases Nat.lt_or_ge k s.size with h | h
  · exact (mem_bs (bt_mem s k h)).1
  · unfold bt; rw [List.getD_eq_getElem?_getD, List.getElem?_eq_none (by rw [length_bs]; exact h)]; simp
theorem bt_hi (s : ByteArray) (k : Nat) : bt s k ≤ 255 := by
  rcases Nat.lt_or_ge k s.size with h | h
  · exact (mem_bs (bt_mem s k h)).2
  · unfold bt; rw [List.getD_eq_getElem?_getD, List.getElem?_eq_none (by rw [length_bs]; exact h)]; simp
theorem take_succ (s : ByteArray) (k : Nat) (h : k < s.size) : (bs s).take (k + 1) = (bs s).take k ++ [bt s k] := by
  have hl : k < (bs s).length := by rw [length_bs]; exact h
  rw [List.take_succ_eq_append_getElem hl]
  unfold bt
  rw [List.getD_eq_getElem?_getD, List.getElem?_eq_getElem hl]
  rfl
theorem take_all (s : ByteArray) : (bs s).take s.size = bs s := by rw [← length_bs]; exact List.take_length
theorem all_no {s : ByteArray} {k : Nat} {p : Int → Bool} (h : k < s.size) (hp : p (bt s k) = false) : (bs s).all p = false := by
  cases e : (bs s).all p with
  | false => rfl
  | true => rw [List.all_eq_true] at e; rw [e _ (bt_mem s k h)] at hp; cases hp
theorem all_step {s : ByteArray} {k : Nat} {p : Int → Bool} (h : k < s.size) (hp : p (bt s k) = true) (hk : ((bs s).take k).all p = true) : ((bs s).take (k + 1)).all p = true := by
  rw [take_succ s k h, List.all_append, hk]; simp [hp]
end Cd

theorem letter_any (c : Int) (w : World) : Calls Tryz.prog 120 #[.int .u8 c] w fun e w' => e = .returned (.bool (Cd.isL c)) ∧ w = w' := by
  go_enter Tryz.func120, Tryz.ntmps120
  go_wp2
  all_goals go_ret
  all_goals exact ⟨by simp [Cd.isL, *] <;> omega, rfl⟩
theorem rletter_any (c : Int) (w : World) : Calls Tryz.prog 108 #[.int .u8 c] w fun e w' => e = .returned (.bool (Cd.isL c)) ∧ w = w' := by
  go_enter Tryz.func108, Tryz.ntmps108
  go_wp2
  all_goals go_ret
  all_goals exact ⟨by simp [Cd.isL, *] <;> omega, rfl⟩
theorem digit_any (c : Int) (w : World) : Calls Tryz.prog 133 #[.int .u8 c] w fun e w' => e = .returned (.bool (Cd.isD c)) ∧ w = w' := by
  go_enter Tryz.func133, Tryz.ntmps133
  go_wp2
  all_goals go_ret
  all_goals exact ⟨by simp [Cd.isD, *] <;> omega, rfl⟩
theorem rdigit_any (c : Int) (w : World) : Calls Tryz.prog 128 #[.int .u8 c] w fun e w' => e = .returned (.bool (Cd.isD c)) ∧ w = w' := by
  go_enter Tryz.func128, Tryz.ntmps128
  go_wp2
  all_goals go_ret
  all_goals exact ⟨by simp [Cd.isD, *] <;> omega, rfl⟩
theorem class_any (c : Int) (w : World) : Calls Tryz.prog 93 #[.int .u8 c] w fun e w' => e = .returned (.bool (Cd.isL c)) ∧ w = w' := by
  go_enter Tryz.func93, Tryz.ntmps93
  go_wp2_with (go_at_call 120; refine (letter_any _ _).mono ?_; rintro e w' ⟨rfl, rfl⟩)
  go_ret
  exact ⟨rfl, rfl⟩
theorem rclass_any (c : Int) (w : World) : Calls Tryz.prog 81 #[.int .u8 c] w fun e w' => e = .returned (.bool (Cd.isL c)) ∧ w = w' := by
  go_enter Tryz.func81, Tryz.ntmps81
  go_wp2_with (go_at_call 108; refine (rletter_any _ _).mono ?_; rintro e w' ⟨rfl, rfl⟩)
  go_ret
  exact ⟨rfl, rfl⟩
end Go.Proofs.YtmcekicaigbccaaGreat
