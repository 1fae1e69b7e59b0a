/- Contracts of Get and of the document's Get. -/
import Derived.Test.YtogkaoiiddhdbaaWPut
namespace Go.Proofs.Ytogkaoiiddhdbaa
open Go.RowKit

namespace Wd
/-- The number that bytes make, the highest first. -/
def valB (l : List UInt8) : Nat := l.foldl (fun n c => n * 256 + c.toNat) 0
theorem valB_snoc (l : List UInt8) (c : UInt8) : valB (l ++ [c]) = valB l * 256 + c.toNat := by simp [valB]
theorem foldB_lt (l : List UInt8) (a : Nat) (k : Nat) (h : a < 256 ^ k) : l.foldl (fun n c => n * 256 + c.toNat) a < 256 ^ (k + l.length) := by
  induction l generalizing a k with
  | nil => simpa using h
  | cons c l ih =>
    have hc := c.toNat_lt
    have := ih (a * 256 + c.toNat) (k + 1) (by rw [Nat.pow_succ]; omega)
    rw [List.length_cons, show k + (l.length + 1) = k + 1 + l.length by omega]
    exact this
theorem valB_lt (l : List UInt8) : valB l < 256 ^ l.length := by
  have := foldB_lt l 0 0 (by simp)
  simpa [valB] using this
/-- The bytes from at on, the first j. -/
def part (l : List UInt8) (a j : Nat) : List UInt8 := (l.drop a).take j
theorem part_snoc (l : List UInt8) (a j : Nat) (h : a + j < l.length) : part l a (j + 1) = part l a j ++ [l[a + j]] := by
  unfold part
  rw [List.take_succ_eq_append_getElem (by simp; omega), List.getElem_drop]
theorem part_lt (l : List UInt8) (a j : Nat) (h : j ≤ 7) : valB (part l a j) < 72057594037927936 := by
  refine Nat.lt_of_lt_of_le (valB_lt _) ?_
  exact Nat.le_trans (Nat.pow_le_pow_right (by omega) (show (part l a j).length ≤ 7 by simp [part]; omega)) (by decide)
theorem part_lt8 (l : List UInt8) (a j : Nat) (h : j ≤ 8) : valB (part l a j) < 18446744073709551616 := by
  refine Nat.lt_of_lt_of_le (valB_lt _) ?_
  exact Nat.le_trans (Nat.pow_le_pow_right (by omega) (show (part l a j).length ≤ 8 by simp [part]; omega)) (by decide)
theorem or_byte (n : Nat) (c : UInt8) (h : n < 72057594037927936) : bits .or .u64 ((n : Int) * 256) (c.toNat : Int) = ((n * 256 + c.toNat : Nat) : Int) := by
  have hc := c.toNat_lt
  rw [u64_or _ _ (by omega) (by omega) (by omega) (by omega), show ((n : Int) * 256).toNat = n * 256 from by omega, Int.toNat_natCast, nat_join 8 _ _ (by omega) (by omega)]
theorem wrapped (x : Int) : ∃ v : Nat, v < 18446744073709551616 ∧ Value.int .u64 (IntKind.u64.wrap x) = .int .u64 (v : Int) := by
  refine ⟨(x % 18446744073709551616).toNat, by omega, val_int ?_⟩
  rw [IntKind.wrap_u64]
  omega
theorem add_byte (v : Nat) (c : UInt8) (h : v < 72057594037927936) : IntKind.u64.wrap ((v : Int) * 256 + IntKind.u64.wrap (c.toNat : Int)) = ((v * 256 + c.toNat : Nat) : Int) := by
  have hc := c.toNat_lt
  rw [IntKind.wrap_u64, IntKind.wrap_u64]
  omega
end Wd

theorem get_range (A : Option Addr) (l : List UInt8) (c : Nat) (a s : Int) (w : World) (h : s < 1 ∨ 8 < s ∨ a < 0) :
    Calls Try.prog 101 #[.slice A l.length c, .int .i64 a, .int .i64 s] w fun e w' => e = .returned (.tuple #[.int .u64 0, .int .i64 1]) ∧ w = w' := by
  rcases (show s < 1 ∨ (1 ≤ s ∧ 8 < s) ∨ (1 ≤ s ∧ s ≤ 8 ∧ a < 0) from by omega) with h | ⟨h, h'⟩ | ⟨h, h', h''⟩
  all_goals
    go_enter Try.func101, Try.ntmps101
    go_wp2
    go_ret2
    exact ⟨rfl, rfl⟩
theorem get_short (A : Option Addr) (l : List UInt8) (c : Nat) (a s : Int) (w : World) (h1 : 1 ≤ s) (h2 : s ≤ 8) (h3 : 0 ≤ a) (h4 : (l.length : Int) - s < a) (hl : l.length ≤ 140737488355328) :
    Calls Try.prog 101 #[.slice A l.length c, .int .i64 a, .int .i64 s] w fun e w' => e = .returned (.tuple #[.int .u64 0, .int .i64 5]) ∧ w = w' := by
  go_enter Try.func101, Try.ntmps101
  go_wp2
  go_ret2
  exact ⟨rfl, rfl⟩
set_option maxHeartbeats 400000 in
theorem get_ok (A : Option Addr) (l : List UInt8) (c B a k : Nat) (w : World) (h : Wd.Bts w B A l) (h1 : 1 ≤ k) (h2 : k ≤ 8) (h4 : a + k ≤ l.length) (hl : l.length ≤ 140737488355328) :
    Calls Try.prog 101 #[.slice A l.length c, .int .i64 (a : Int), .int .i64 (k : Int)] w fun e w' => e = .returned (.tuple #[.int .u64 ((Wd.valB (Wd.part l a k) : Nat) : Int), .int .i64 0]) ∧ w = w' := by
  obtain ⟨b, off, rfl, _, hc⟩ := h (by omega)
  have HC := Lib.hid hc
  clear hc h
  go_enter Try.func101, Try.ntmps101
  go_wp2
  go_loop [8, 27] (fun n i => ∃ j : Nat, j ≤ k ∧ i = .int .i64 j ∧ n = .int .u64 ((Wd.valB (Wd.part l a j) : Nat) : Int)) (fun _ i => k - (intOf i).toNat)
  case atStart => exact ⟨0, by omega, rfl, rfl⟩
  case round =>
    obtain ⟨j, hj, rfl, rfl⟩ := hrel
    by_cases hlt : j < k
    · have hb := Wd.part_lt l a j (by omega)
      have HS := Lib.hid (Wd.valB_snoc (Wd.part l a j) (l[a + j]'(by omega)))
      rw [← Wd.part_snoc l a j (by omega)] at HS
      have hc := HC.out (a + j) (by omega)
      have ho := Wd.or_byte _ (l[a + j]'(by omega)) hb
      have hch := (l[a + j]'(by omega)).toNat_lt
      generalize l[a + j]'(by omega) = ch at *
      generalize Wd.valB (Wd.part l a j) = v at *
      go_wp2
      go_round
      case rel => exact ⟨j + 1, by omega, by go_num, Wd.val_int (by rw [HS.out]; omega)⟩
      case measure => simp [intOf]; omega
    · obtain rfl : j = k := by omega
      go_wp2
      go_ret2
      exact ⟨rfl, rfl⟩

theorem rget_range (l : List UInt8) (a s : Int) (w : World) (h : s < 1 ∨ 8 < s ∨ a < 0) :
    Calls Try.prog 91 #[.string ⟨l.toArray⟩, .int .i64 a, .int .i64 s] w fun e w' => e = .returned (.tuple #[.int .u64 0, .int .i64 1]) ∧ w = w' := by
  rcases (show s < 1 ∨ (1 ≤ s ∧ 8 < s) ∨ (1 ≤ s ∧ s ≤ 8 ∧ a < 0) from by omega) with h | ⟨h, h'⟩ | ⟨h, h', h''⟩
  all_goals
    go_enter Try.func91, Try.ntmps91
    go_wp2
    go_ret2
    exact ⟨rfl, rfl⟩
set_option maxHeartbeats 400000 in
theorem rget_short (l : List UInt8) (a : Int) (k : Nat) (w : World) (h1 : 1 ≤ k) (h2 : k ≤ 8) (h3 : 0 ≤ a) (h4 : (l.length : Int) - k < a) (hl : l.length ≤ 140737488355328) (ha : a ≤ 9223372036854775807) :
    Calls Try.prog 91 #[.string ⟨l.toArray⟩, .int .i64 a, .int .i64 (k : Int)] w fun e w' => e = .returned (.tuple #[.int .u64 0, .int .i64 5]) ∧ w = w' := by
  go_enter Try.func91, Try.ntmps91
  go_wp2
  go_loop [8, 9] (fun n i => ∃ j : Nat, j < k ∧ i = .int .i64 j ∧ (j : Int) ≤ max 0 (l.length - a) ∧ ∃ v : Nat, v < 18446744073709551616 ∧ n = .int .u64 (v : Int)) (fun _ i => k - (intOf i).toNat)
  case atStart => exact ⟨0, by omega, rfl, by omega, 0, by omega, rfl⟩
  case round =>
    obtain ⟨j, hj, rfl, hm, v, hv, rfl⟩ := hrel
    by_cases hs : (l.length : Int) - j ≤ a
    · go_wp2
      go_ret2
      exact ⟨rfl, rfl⟩
    · have hj1 : j + 1 < k := by omega
      have ha2 : 0 ≤ a + j := by omega
      have ha3 : a + j < (l.length : Int) := by omega
      go_wp2
      go_round
      case rel => exact ⟨j + 1, by omega, by go_num, by omega, Wd.wrapped _⟩
      case measure => simp [intOf]; omega
set_option maxHeartbeats 400000 in
theorem rget_ok (l : List UInt8) (a k : Nat) (w : World) (h1 : 1 ≤ k) (h2 : k ≤ 8) (h4 : a + k ≤ l.length) (hl : l.length ≤ 140737488355328) :
    Calls Try.prog 91 #[.string ⟨l.toArray⟩, .int .i64 (a : Int), .int .i64 (k : Int)] w fun e w' => e = .returned (.tuple #[.int .u64 ((Wd.valB (Wd.part l a k) : Nat) : Int), .int .i64 0]) ∧ w = w' := by
  go_enter Try.func91, Try.ntmps91
  go_wp2
  go_loop [8, 9] (fun n i => ∃ j : Nat, j ≤ k ∧ i = .int .i64 j ∧ n = .int .u64 ((Wd.valB (Wd.part l a j) : Nat) : Int)) (fun _ i => k - (intOf i).toNat)
  case atStart => exact ⟨0, by omega, rfl, rfl⟩
  case round =>
    obtain ⟨j, hj, rfl, rfl⟩ := hrel
    by_cases hlt : j < k
    · have hb := Wd.part_lt l a j (by omega)
      have HS := Lib.hid (Wd.valB_snoc (Wd.part l a j) (l[a + j]'(by omega)))
      rw [← Wd.part_snoc l a j (by omega)] at HS
      have hlt2 : a + j < l.length := by omega
      generalize Wd.valB (Wd.part l a j) = v at *
      go_wp2
      go_round
      case rel => exact ⟨j + 1, by omega, by go_num, Wd.val_int (by rw [HS.out]; exact Wd.add_byte v l[a + j] hb)⟩
      case measure => simp [intOf]; omega
    · obtain rfl : j = k := by omega
      go_wp2
      go_ret2
      exact ⟨rfl, rfl⟩
end Go.Proofs.Ytogkaoiiddhdbaa
