/- Two digits, the months' names: contracts of pair, Two, monthName, month and readPair. -/
import Derived.Test.YtgmcmidddhpbcaaDoorPlain
import Derived.BigQuiet
import Derived.Deep.OwnRows
import Derived.Laws.BytesArg
import Derived.Laws.IdiomStrings
namespace Go.Proofs.YtgmcmidddhpbcaaDoor
open Go.RowKit
set_option linter.unusedVariables false

namespace Dt
/-- The two digits of a number below 100. -/
def two (n : Nat) : ByteArray := ⟨#[UInt8.ofNat (48 + n / 10), UInt8.ofNat (48 + n % 10)]⟩
/-- The months' names. -/
def nm : Nat → ByteArray
  | 0 => ⟨#[74, 65, 78]⟩ | 1 => ⟨#[70, 69, 66]⟩ | 2 => ⟨#[77, 65, 82]⟩ | 3 => ⟨#[65, 80, 82]⟩ | 4 => ⟨#[77, 65, 89]⟩ | 5 => ⟨#[74, 85, 78]⟩
  | 6 => ⟨#[74, 85, 76]⟩ | 7 => ⟨#[65, 85, 71]⟩ | 8 => ⟨#[83, 69, 80]⟩ | 9 => ⟨#[79, 67, 84]⟩ | 10 => ⟨#[78, 79, 86]⟩ | _ => ⟨#[68, 69, 67]⟩
/-- The months' lengths. -/
def ln (m : Nat) : Nat := [31, 29, 31, 30, 31, 30, 31, 31, 30, 31, 30, 31].getD m 0
end Dt

/-- string(b), b two bytes of a new block. -/
theorem conv2 (w : World) (a b : UInt8) (x y : Int) (hx : x = (a.toNat : Int)) (hy : y = (b.toNat : Int)) :
    (convert 43 9 (.slice (some ⟨w.heap.size, 0, none⟩) 2 2)).run Tryd.prog (w.alloc (.cells #[.int .u8 x, .int .u8 y] 5)) = .ok (.string ⟨#[a, b]⟩) (w.alloc (.cells #[.int .u8 x, .int .u8 y] 5)) := by
  subst hx hy
  refine run_convert_bytes_back _ 43 9 5 ⟨w.heap.size, 0, none⟩ 2 [a, b] Tryd.underlying43 Tryd.underlying5 Tryd.underlying9 fun j hj => ?_
  have hh : (w.alloc (.cells #[.int .u8 (a.toNat : Int), .int .u8 (b.toNat : Int)] 5)).heap[w.heap.size]? = some (.cells #[.int .u8 (a.toNat : Int), .int .u8 (b.toNat : Int)] 5) := heap_alloc_new w _
  rcases (show j = 0 ∨ j = 1 by simp at hj; omega) with rfl | rfl
  · exact (cell_of_row _ w.heap.size 0 _ _ _ hh).trans rfl
  · exact (cell_of_row _ w.heap.size 1 _ _ _ hh).trans rfl
theorem two_conv (n : Nat) (h : n < 100) (w : World) :
    (convert 43 9 (.slice (some ⟨w.heap.size, 0, none⟩) 2 2)).run Tryd.prog (w.alloc (.cells #[.int .u8 (48 + (n : Int) / 10), .int .u8 (48 + (n : Int) % 10)] 5)) = .ok (.string (Dt.two n)) (w.alloc (.cells #[.int .u8 (48 + (n : Int) / 10), .int .u8 (48 + (n : Int) % 10)] 5)) :=
  conv2 w _ _ _ _ (by rw [UInt8.toNat_ofNat']; omega) (by rw [UInt8.toNat_ofNat']; omega)

theorem pair_any (n : Nat) (w : World) (h : n < 100) : Calls Tryd.prog 23 #[.int .i64 (n : Int)] w fun e w' => e = .returned (.string (Dt.two n)) ∧ Below w.heap.size w w' := by
  have hc := two_conv n h w
  go_enter Tryd.func23, Tryd.ntmps23
  go_wp2
  go_ret
  exact ⟨rfl, (Below.refl _ _).alloc (Nat.le_refl _) _⟩
theorem rtwo_any (n : Nat) (w : World) (h : n < 100) : Calls Tryd.prog 26 #[.int .i64 (n : Int)] w fun e w' => e = .returned (.string (Dt.two n)) ∧ Below w.heap.size w w' := by
  have hc := two_conv n h w
  have hq : (n : Int) / 10 % 10 = n / 10 := by omega
  go_enter Tryd.func26, Tryd.ntmps26
  go_wp2
  go_ret
  exact ⟨rfl, (Below.refl _ _).alloc (Nat.le_refl _) _⟩

theorem name_slice (m : Nat) (w : World) (h : m < 12) : (Instr.slice 9 (.string ⟨#[74, 65, 78, 70, 69, 66, 77, 65, 82, 65, 80, 82, 77, 65, 89, 74, 85, 78, 74, 85, 76, 65, 85, 71, 83, 69, 80, 79, 67, 84, 78, 79, 86, 68, 69, 67]⟩)
    (some (.int .i64 ((m : Int) * 3))) (some (.int .i64 (((m : Int) + 1) * 3))) none).run Tryd.prog w = .ok (.string (Dt.nm m)) w := by
  rw [run_slice_string (P := Tryd.prog) w 9 _ .i64 .i64 ((m : Int) * 3) (((m : Int) + 1) * 3) Tryd.underlying9 (by omega) (by omega) (by show _ ≤ ((36 : Nat) : Int); omega)]
  rcases (show m = 0 ∨ m = 1 ∨ m = 2 ∨ m = 3 ∨ m = 4 ∨ m = 5 ∨ m = 6 ∨ m = 7 ∨ m = 8 ∨ m = 9 ∨ m = 10 ∨ m = 11 by omega) with rfl | rfl | rfl | rfl | rfl | rfl | rfl | rfl | rfl | rfl | rfl | rfl <;> rfl
theorem monthName_any (m : Nat) (w : World) (h : m < 12) : Calls Tryd.prog 24 #[.int .i64 (m : Int)] w fun e w' => e = .returned (.string (Dt.nm m)) ∧ w = w' := by
  have hs := name_slice m w h
  go_enter Tryd.func24, Tryd.ntmps24
  go_wp2
  go_ret
  exact ⟨rfl, rfl⟩
theorem month_any (m : Nat) (w : World) (h : m < 12) : Calls Tryd.prog 25 #[.int .i64 (m : Int)] w fun e w' => e = .returned (.tuple #[.string (Dt.nm m), .int .i64 (Dt.ln m : Int)]) ∧ w = w' := by
  rcases (show m = 0 ∨ m = 1 ∨ m = 2 ∨ m = 3 ∨ m = 4 ∨ m = 5 ∨ m = 6 ∨ m = 7 ∨ m = 8 ∨ m = 9 ∨ m = 10 ∨ m = 11 by omega) with rfl | rfl | rfl | rfl | rfl | rfl | rfl | rfl | rfl | rfl | rfl | rfl
  all_goals clear h
  all_goals go_enter Tryd.func25, Tryd.ntmps25
  all_goals go_wp2
  all_goals go_ret2
  all_goals exact ⟨rfl, rfl⟩
theorem below_drewN (w : World) (n : Nat) : Below w.heap.size w (w.drewN n) := (Below.refl _ w).trans ⟨rfl, rfl, rfl, Nat.le_refl _, fun _ _ => rfl⟩
theorem ret_tuple {a b c d : Value} (h1 : a = c) (h2 : b = d) : Ending.returned (.tuple #[a, b]) = .returned (.tuple #[c, d]) := by rw [h1, h2]
theorem val_int {k : IntKind} {a b : Int} (h : a = b) : Value.int k a = .int k b := by rw [h]

theorem readPair_yes (s : ByteArray) (a b : Nat) (w : World) (hs : s.size = 2) (h0 : ∀ h : 0 < s.size, (s[0]'h).toNat = a) (h1 : ∀ h : 1 < s.size, (s[1]'h).toNat = b)
    (u1 : 48 ≤ a) (u2 : a ≤ 57) (u3 : 48 ≤ b) (u4 : b ≤ 57) : Calls Tryd.prog 28 #[.string s] w fun e w' => e = .returned (.tuple #[.int .i64 (((a - 48) * 10 + (b - 48) : Nat) : Int), .bool true]) ∧ Below w.heap.size w w' := by
  go_enter Tryd.func28, Tryd.ntmps28
  go_wp2
  go_quiet (fail)
  go_wp2
  go_ret2
  exact ⟨ret_tuple (val_int (by omega)) rfl, below_drewN _ _⟩
theorem readPair_no (s : ByteArray) (a b : Nat) (w : World) (hs : s.size = 2) (h0 : ∀ h : 0 < s.size, (s[0]'h).toNat = a) (h1 : ∀ h : 1 < s.size, (s[1]'h).toNat = b)
    (ha : a < 256) (hb : b < 256) (u : ¬ (48 ≤ a ∧ a ≤ 57 ∧ 48 ≤ b ∧ b ≤ 57)) : Calls Tryd.prog 28 #[.string s] w fun e w' => e = .returned (.tuple #[.int .i64 0, .bool false]) ∧ Below w.heap.size w w' := by
  rcases (show a < 48 ∨ 57 < a ∨ (48 ≤ a ∧ a ≤ 57 ∧ b < 48) ∨ (48 ≤ a ∧ a ≤ 57 ∧ 57 < b) by omega) with u1 | u1 | ⟨u1, u2, u3⟩ | ⟨u1, u2, u3⟩
  all_goals clear u
  all_goals go_enter Tryd.func28, Tryd.ntmps28
  all_goals go_wp2
  all_goals go_quiet (fail)
  all_goals go_wp2
  all_goals go_ret2
  all_goals exact ⟨rfl, below_drewN _ _⟩
end Go.Proofs.YtgmcmidddhpbcaaDoor
