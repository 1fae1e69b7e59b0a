/- Contract of Put. -/
import Derived.Test.YtogkaoiiddhdbaaWMem
namespace Go.Proofs.Ytogkaoiiddhdbaa
open Go.RowKit

namespace Wd
/-- The lowest k bytes of n, the highest of them first. -/
def putL (n : Nat) : Nat → List UInt8
  | 0 => []
  | k + 1 => UInt8.ofNat (n / 256 ^ k) :: putL n k
theorem length_putL (n k : Nat) : (putL n k).length = k := by
  induction k with
  | zero => rfl
  | succ k ih => simp [putL, ih]
def clamp (s : Int) : Nat := if s < 0 then 0 else if 8 < s then 8 else s.toNat
theorem clamp_le (s : Int) : clamp s ≤ 8 := by unfold clamp; split <;> (try split) <;> omega
theorem clamp_eq (s : Int) : min (max s 0) 8 = ((clamp s : Nat) : Int) := by unfold clamp; split <;> (try split) <;> omega
/-- The row of Put behind i rounds. -/
def putRow (l : List UInt8) (n k i : Nat) : List UInt8 := l ++ (zeros (k - i) ++ putL n i)
theorem length_putRow (l : List UInt8) (n k i : Nat) (h : i ≤ k) : (putRow l n k i).length = l.length + k := by
  simp [putRow, length_zeros, length_putL]; omega
theorem putRow_zero (l : List UInt8) (n k : Nat) : putRow l n k 0 = l ++ zeros k := by simp [putRow, putL]
theorem putRow_all (l : List UInt8) (n k : Nat) : putRow l n k k = l ++ putL n k := by simp [putRow, zeros]
theorem putRow_succ (l : List UInt8) (n k i : Nat) (h : i < k) : (putRow l n k i).set (l.length + k - 1 - i) (UInt8.ofNat (n / 256 ^ i)) = putRow l n k (i + 1) := by
  obtain ⟨m, rfl⟩ : ∃ m, k = i + 1 + m := ⟨k - i - 1, by omega⟩
  unfold putRow
  rw [show i + 1 + m - i = m + 1 by omega, show i + 1 + m - (i + 1) = m by omega, show l.length + (i + 1 + m) - 1 - i = l.length + m by omega]
  rw [List.set_append_right _ _ (by omega), show l.length + m - l.length = m by omega]
  congr 1
  unfold zeros
  rw [List.replicate_succ', List.append_assoc, List.set_append_right _ _ (by simp)]
  simp [putL]
theorem byte_at_shift (n j : Nat) : Value.int .u8 ((n : Int) / 2 ^ (8 * j) % 256) = .int .u8 ((UInt8.ofNat (n / 256 ^ j)).toNat : Int) := by
  refine val_int ?_
  rw [show ((2 : Int) ^ (8 * j)) = ((256 ^ j : Nat) : Int) from by rw [Int.pow_mul]; simp]
  rw [← Int.natCast_ediv]
  simp [UInt8.toNat_ofNat']
end Wd

set_option maxHeartbeats 400000 in
theorem put_core (A : Option Addr) (l : List UInt8) (c B n k : Nat) (s : Int) (w : World) (h : Wd.Bts w B A l) (hB : B ≤ w.heap.size) (hl : l.length ≤ 140737488355328) (_hn : n < 18446744073709551616) (e : min (max s 0) 8 = (k : Int)) (hk : k ≤ 8) :
    Calls Try.prog 78 #[.slice A l.length c, .int .u64 (n : Int), .int .i64 s] w fun e w' => e = .returned (.slice (some ⟨w.heap.size, 0, none⟩) (l.length + k) (l.length + k)) ∧
      Hid (Wd.Row w' w.heap.size (l ++ Wd.putL n k)) ∧ Below w.heap.size w w' := by
  have H := Lib.hid h
  clear h
  go_enter Try.func78, Try.ntmps78
  go_wp2_with (go_at_call 94; refine (roomier_any A l c B k _ H.out hB (by omega)).mono ?_; rintro e w1 ⟨rfl, HR, hb⟩)
  clear e
  go_loopw [16] (fun i wr => ∃ j : Nat, j ≤ k ∧ i = .int .i64 j ∧ Hid (Wd.Row wr w.heap.size (Wd.putRow l n k j)) ∧ Below w.heap.size w wr) (fun i _ => k - (intOf i).toNat)
  case atStart => exact ⟨0, by omega, rfl, by rw [Wd.putRow_zero]; exact HR, hb⟩
  case round =>
    obtain ⟨j, hj, rfl, HRj, hbj⟩ := hrel
    by_cases hlt : j < k
    · have hlen := Wd.length_putRow l n k j hj
      have hc := HRj.out.cell (l.length + k - 1 - j) (by omega)
      have hf := HRj.out.free (l.length + k - 1 - j)
      have HN := Lib.hid (HRj.out.set (l.length + k - 1 - j) (UInt8.ofNat (n / 256 ^ j)))
      rw [Wd.putRow_succ l n k j hlt, ← Wd.byte_at_shift] at HN
      have hbn := hbj.setCell (p := ⟨w.heap.size, l.length + k - 1 - j, none⟩) (Nat.le_refl _) (.int .u8 ((n : Int) / 2 ^ (8 * j) % 256))
      go_wp2
      go_roundw
      case rel => exact ⟨j + 1, by omega, by go_num, HN, hbn⟩
      case measure => simp [intOf]; omega
    · have HE : Hid (Wd.Row wr w.heap.size (l ++ Wd.putL n k)) := by
        rw [show j = k by omega, Wd.putRow_all] at HRj
        exact HRj
      go_wp2
      go_ret
      exact ⟨rfl, HE, hbj⟩
theorem put_any (A : Option Addr) (l : List UInt8) (c B n : Nat) (s : Int) (w : World) (h : Wd.Bts w B A l) (hB : B ≤ w.heap.size) (hl : l.length ≤ 140737488355328) (hn : n < 18446744073709551616) :
    Calls Try.prog 78 #[.slice A l.length c, .int .u64 (n : Int), .int .i64 s] w fun e w' => e = .returned (.slice (some ⟨w.heap.size, 0, none⟩) (l.length + Wd.clamp s) (l.length + Wd.clamp s)) ∧
      Hid (Wd.Row w' w.heap.size (l ++ Wd.putL n (Wd.clamp s))) ∧ Below w.heap.size w w' :=
  put_core A l c B n (Wd.clamp s) s w h hB hl hn (Wd.clamp_eq s) (Wd.clamp_le s)
end Go.Proofs.Ytogkaoiiddhdbaa
