/- Contracts of Var and of the document's Var. -/
import Derived.Test.YtjnenicaheppeaaRput
namespace Go.Proofs.Ytjnenicaheppeaa
open Go.RowKit

namespace Wd
/-- All bytes but the last of a number in bytes of seven bits. -/
def vpre (n j : Nat) : List UInt8 := (List.range j).map fun i => UInt8.ofNat (n / 128 ^ i % 128 + 128)
/-- A number in k + 1 bytes of seven bits. -/
def varK (n k : Nat) : List UInt8 := vpre n k ++ [UInt8.ofNat (n / 128 ^ k)]
/-- How many bytes a number takes, less one. -/
def vsz (n : Nat) : Nat := (Nat.log2 (n ||| 1)) / 7
def varL (n : Nat) : List UInt8 := varK n (vsz n)
theorem length_vpre (n j : Nat) : (vpre n j).length = j := by simp [vpre]
theorem length_varK (n k : Nat) : (varK n k).length = k + 1 := by simp [varK, length_vpre]
theorem length_varL (n : Nat) : (varL n).length = vsz n + 1 := length_varK _ _
theorem vpre_succ (n j : Nat) : vpre n (j + 1) = vpre n j ++ [UInt8.ofNat (n / 128 ^ j % 128 + 128)] := by simp [vpre, List.range_succ]

theorem or1_pos (n : Nat) : 0 < n ||| 1 := by have := Nat.right_le_or (n := n) (m := 1); omega
theorem or1_lt (n : Nat) (h : n < 18446744073709551616) : n ||| 1 < 18446744073709551616 := Nat.or_lt_two_pow (n := 64) h (by decide)
theorem or1_le (n : Nat) : n ≤ n ||| 1 := Nat.left_le_or
theorem or1_ge (n : Nat) (h : 0 < n) : n ||| 1 ≤ n + 1 - n % 2 := by
  rcases Nat.mod_two_eq_zero_or_one n with e | e
  · have := nat_join 1 n 1 (by simpa using e) (by decide)
    omega
  · have h1 : n ||| 1 = n := by
      apply Nat.eq_of_testBit_eq
      intro i
      rw [Nat.testBit_or]
      rcases i with _ | i
      · simp [Nat.testBit_zero, e]
      · simp [Nat.testBit_succ]
    omega
theorem bitLen_log (x : Nat) (h0 : 0 < x) (h : x < 18446744073709551616) : Lib.bitLen x = Nat.log2 x + 1 := by
  have h1 : 2 ^ Nat.log2 x ≤ x := Nat.log2_self_le (by omega)
  have h2 : x < 2 ^ (Nat.log2 x + 1) := Nat.lt_log2_self
  rw [Lib.bitLen_shift (Nat.log2 x) x h1 h]
  have h3 : x / 2 ^ Nat.log2 x = 1 := by
    rw [Nat.pow_succ] at h2
    have hp : 0 < 2 ^ Nat.log2 x := Nat.two_pow_pos _
    apply Nat.div_eq_of_lt_le
    · omega
    · omega
  rw [h3]
  rfl
theorem pow128 (k : Nat) : 128 ^ k = 2 ^ (7 * k) := by rw [Nat.pow_mul]
theorem vsz_lt (n : Nat) : n < 128 ^ (vsz n + 1) := by
  rw [pow128]
  refine Nat.lt_of_le_of_lt (or1_le n) (Nat.lt_of_lt_of_le (Nat.lt_log2_self (n := n ||| 1)) (Nat.pow_le_pow_right (by omega) ?_))
  unfold vsz
  omega
theorem vsz_le (n : Nat) (h : vsz n ≠ 0) : 128 ^ vsz n ≤ n := by
  have h1 : 2 ^ Nat.log2 (n ||| 1) ≤ n ||| 1 := Nat.log2_self_le (by have := or1_pos n; omega)
  have h2 : 2 ^ (7 * vsz n) ≤ 2 ^ Nat.log2 (n ||| 1) := Nat.pow_le_pow_right (by omega) (by unfold vsz; omega)
  rw [pow128]
  rcases Nat.eq_zero_or_pos n with e | e
  · subst e
    exact absurd (by decide) h
  · have h3 := or1_ge n e
    obtain ⟨m, hm⟩ : ∃ m, 2 ^ (7 * vsz n) = 2 * m := by
      obtain ⟨q, hq⟩ : ∃ q, 7 * vsz n = q + 1 := ⟨7 * vsz n - 1, by omega⟩
      exact ⟨2 ^ q, by rw [hq, Nat.pow_succ]; omega⟩
    omega
theorem vsz_bd (n : Nat) (h : n < 18446744073709551616) : vsz n ≤ 9 := by
  have : Nat.log2 (n ||| 1) < 64 := (Nat.log2_lt (by have := or1_pos n; omega)).2 (or1_lt n h)
  unfold vsz
  omega
theorem vsz_step (n j : Nat) (h : j < vsz n) : 128 ≤ n / 128 ^ j := by
  rw [Nat.le_div_iff_mul_le (Nat.pow_pos (by omega)), Nat.mul_comm, ← Nat.pow_succ]
  exact Nat.le_trans (Nat.pow_le_pow_right (by omega) (show j + 1 ≤ vsz n by omega)) (vsz_le n (by omega))
theorem vsz_last (n : Nat) : n / 128 ^ vsz n < 128 := by
  rw [Nat.div_lt_iff_lt_mul (Nat.pow_pos (by omega)), Nat.mul_comm, ← Nat.pow_succ]
  exact vsz_lt n

theorem or128 (x : Nat) (h : x < 256) : x ||| 128 = x % 128 + 128 := by
  have : ∀ y : Fin 256, y.val ||| 128 = y.val % 128 + 128 := by decide +kernel
  exact this ⟨x, h⟩
/-- The row of Var behind j rounds. -/
def varRow (l : List UInt8) (n k j : Nat) : List UInt8 := l ++ (vpre n j ++ zeros (k - j))
theorem length_varRow (l : List UInt8) (n k j : Nat) (h : j ≤ k) : (varRow l n k j).length = l.length + k := by
  simp [varRow, length_vpre, length_zeros]; omega
theorem varRow_zero (l : List UInt8) (n k : Nat) : varRow l n k 0 = l ++ zeros k := by simp [varRow, vpre]
theorem varRow_all (l : List UInt8) (n k : Nat) : varRow l n k k = l ++ vpre n k := by simp [varRow, zeros]
theorem varRow_succ (l : List UInt8) (n k j : Nat) (h : j < k) : (varRow l n k j).set (l.length + j) (UInt8.ofNat (n / 128 ^ j % 128 + 128)) = varRow l n k (j + 1) := by
  unfold varRow
  rw [List.set_append_right _ _ (by omega), show l.length + j - l.length = j by omega, List.set_append_right _ _ (by rw [length_vpre]; omega), length_vpre, vpre_succ]
  obtain ⟨m, rfl⟩ : ∃ m, k = j + 1 + m := ⟨k - j - 1, by omega⟩
  rw [show j + 1 + m - j = m + 1 by omega, show j + 1 + m - (j + 1) = m by omega]
  simp [zeros, List.replicate_succ]
theorem var_byte (n j : Nat) : bits .or .u8 ((n : Int) / 2 ^ (7 * j) % 256) 128 = ((UInt8.ofNat (n / 128 ^ j % 128 + 128)).toNat : Int) := by
  rw [show ((2 : Int) ^ (7 * j)) = ((128 ^ j : Nat) : Int) from by rw [Int.pow_mul]; simp, ← Int.natCast_ediv]
  generalize n / 128 ^ j = q
  rw [u8_or _ _ (by omega) (by omega) (by omega) (by omega), show (128 : Int).toNat = 128 from rfl, show ((q : Int) % 256).toNat = q % 256 from by omega, or128 _ (by omega)]
  simp [UInt8.toNat_ofNat']
  omega
theorem varRow_end (l : List UInt8) (n k : Nat) : (l ++ vpre n (k + 1)).set (l.length + (k + 1) - 1) (UInt8.ofNat (n / 128 ^ k)) = l ++ varK n k := by
  rw [vpre_succ, List.set_append_right _ _ (by omega), show l.length + (k + 1) - 1 - l.length = k by omega, List.set_append_right _ _ (by rw [length_vpre]; omega), length_vpre]
  simp [varK]
theorem vpre_last (l : List UInt8) (n k p : Nat) (hp : p = l.length + k) (h : p < (l ++ vpre n (k + 1)).length) : (l ++ vpre n (k + 1))[p] = UInt8.ofNat (n / 128 ^ k % 128 + 128) := by
  subst hp
  simp [vpre_succ, List.getElem_append_right, length_vpre]
theorem var_low (n k : Nat) (h : n / 128 ^ k < 128) : bits .andNot .u8 ((UInt8.ofNat (n / 128 ^ k % 128 + 128)).toNat : Int) 128 = ((UInt8.ofNat (n / 128 ^ k)).toNat : Int) := by
  generalize n / 128 ^ k = q at *
  have e1 : (UInt8.ofNat (q % 128 + 128)).toNat = q + 128 := by simp [UInt8.toNat_ofNat']; omega
  have e2 : (UInt8.ofNat q).toNat = q := by simp [UInt8.toNat_ofNat']; omega
  rw [e1, e2]
  rw [show (128 : Int) = ((128 : Nat) : Int) from rfl, u8_andNot_nat _ _ (by omega) (by omega), show 255 - 128 = 127 from rfl, nat_mask7]
  omega
end Wd

theorem len_nat (m b : Nat) (w : World) (hm : m < 18446744073709551616) (hb : Lib.bitLen m = b) :
    Calls Try.prog 26 #[.int .u64 (m : Int)] w fun e w' => e = .returned (.int .i64 (b : Int)) ∧ w = w' := by
  have := len_any (m : Int) w (by omega) (by omega)
  rw [Int.toNat_natCast, hb] at this
  exact this

set_option maxHeartbeats 400000 in
theorem var_core (A : Option Addr) (l : List UInt8) (c B n m b k q : Nat) (w : World) (h : Wd.Bts w B A l) (hB : B ≤ w.heap.size) (hl : l.length ≤ 140737488355328) (_hn : n < 18446744073709551616)
    (hm : m < 18446744073709551616) (ho : bits .or .u64 (n : Int) 1 = (m : Int)) (hb : Lib.bitLen m = b) (hk : (b + 6) / 7 = q) (hk9 : k ≤ 9) (hq : q = k + 1) (hlast : n / 128 ^ k < 128) :
    Calls Try.prog 18 #[.slice A l.length c, .int .u64 (n : Int)] w fun e w' => e = .returned (.slice (some ⟨w.heap.size, 0, none⟩) (l.length + q) (l.length + q)) ∧
      Hid (Wd.Row w' w.heap.size (l ++ Wd.varK n k)) ∧ Below w.heap.size w w' := by
  have H := Lib.hid h
  have HB := Lib.hid hb
  have HK := Lib.hid hk
  have HL := Lib.hid hlast
  have HQ := Lib.hid hq
  have hb0 : b ≤ 76 := by omega
  have hq0 : q ≤ 10 := by omega
  have hq1 : 1 ≤ q := by omega
  clear h hb hk hlast hq
  go_enter Try.func18, Try.ntmps18
  go_wp2_with (go_at_call 26; refine (len_nat m b _ hm HB.out).mono ?_; rintro e w1 ⟨rfl, rfl⟩)
  rw [show ((b : Int) + 7 - 1) / 7 = (q : Int) from by have := HK.out; omega]
  refine (roomier_any A l c B q _ H.out hB (by omega)).mono ?_
  rintro e w1 ⟨rfl, HR, hb⟩
  go_wp2
  go_loopw [18] (fun i wr => ∃ j : Nat, j ≤ q ∧ i = .int .i64 j ∧ Hid (Wd.Row wr w.heap.size (Wd.varRow l n q j)) ∧ Below w.heap.size w wr) (fun i _ => q - (intOf i).toNat)
  case atStart => exact ⟨0, by omega, rfl, by rw [Wd.varRow_zero]; exact HR, hb⟩
  case round =>
    obtain ⟨j, hj, rfl, HRj, hbj⟩ := hrel
    by_cases hlt : j < q
    · have hlen := Wd.length_varRow l n q j hj
      have hc := HRj.out.cell (l.length + j) (by omega)
      have hf := HRj.out.free (l.length + j)
      have HN := Lib.hid (HRj.out.set (l.length + j) (UInt8.ofNat (n / 128 ^ j % 128 + 128)))
      rw [Wd.varRow_succ l n q j hlt] at HN
      have hv := Wd.var_byte n j
      generalize UInt8.ofNat (n / 128 ^ j % 128 + 128) = ch at *
      have hbn := hbj.setCell (p := ⟨w.heap.size, l.length + j, none⟩) (Nat.le_refl _) (.int .u8 (ch.toNat : Int))
      go_wp2
      go_roundw
      case rel => exact ⟨j + 1, by omega, by go_num, HN, hbn⟩
      case measure => simp [intOf]; omega
    · have HE : Hid (Wd.Row wr w.heap.size (l ++ Wd.vpre n (k + 1))) := by
        rw [show j = q by omega, Wd.varRow_all, HQ.out] at HRj
        exact HRj
      have hlen : (l ++ Wd.vpre n (k + 1)).length = l.length + (k + 1) := by rw [List.length_append, Wd.length_vpre]
      have hq := HQ.out
      have hc := HE.out.cell (l.length + q - 1) (by omega)
      have hf := HE.out.free (l.length + q - 1)
      have hg : (l ++ Wd.vpre n (k + 1))[l.length + q - 1]'(by omega) = UInt8.ofNat (n / 128 ^ k % 128 + 128) := Wd.vpre_last l n k _ (by omega) _
      rw [hg] at hc
      have hv := Wd.var_low n k HL.out
      have HN := Lib.hid (HE.out.set (l.length + q - 1) (UInt8.ofNat (n / 128 ^ k)))
      rw [show l.length + q - 1 = l.length + (k + 1) - 1 from by omega, Wd.varRow_end l n k, show l.length + (k + 1) - 1 = l.length + q - 1 from by omega] at HN
      clear hg hq hlen
      generalize UInt8.ofNat (n / 128 ^ k % 128 + 128) = ch at *
      generalize UInt8.ofNat (n / 128 ^ k) = cl at *
      have hbn := hbj.setCell (p := ⟨w.heap.size, l.length + q - 1, none⟩) (Nat.le_refl _) (.int .u8 (cl.toNat : Int))
      go_wp2
      go_ret
      exact ⟨rfl, HN, hbn⟩
theorem var_any (A : Option Addr) (l : List UInt8) (c B n : Nat) (w : World) (h : Wd.Bts w B A l) (hB : B ≤ w.heap.size) (hl : l.length ≤ 140737488355328) (hn : n < 18446744073709551616) :
    Calls Try.prog 18 #[.slice A l.length c, .int .u64 (n : Int)] w fun e w' => e = .returned (.slice (some ⟨w.heap.size, 0, none⟩) (l ++ Wd.varL n).length (l ++ Wd.varL n).length) ∧
      Hid (Wd.Row w' w.heap.size (l ++ Wd.varL n)) ∧ Below w.heap.size w w' := by
  rw [List.length_append, Wd.length_varL]
  refine var_core A l c B n (n ||| 1) _ (Wd.vsz n) (Wd.vsz n + 1) w h hB hl hn (Wd.or1_lt n hn) ?_ rfl ?_ (Wd.vsz_bd n hn) rfl (Wd.vsz_last n)
  · exact u64_or_nat n 1 hn (by omega)
  · rw [Wd.bitLen_log _ (Wd.or1_pos n) (Wd.or1_lt n hn)]
    unfold Wd.vsz
    omega
end Go.Proofs.Ytjnenicaheppeaa
