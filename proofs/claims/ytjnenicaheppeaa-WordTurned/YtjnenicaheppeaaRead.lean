/- Contracts of ReadVar and of the document's ReadVar. -/
import Derived.Test.YtjnenicaheppeaaRvar
namespace Go.Proofs.Ytjnenicaheppeaa
open Go.RowKit
set_option linter.unusedVariables false

namespace Wd
/-- Reading a number byte by byte: i bytes were read, a was made of them. The answer: the number, how many bytes it has, the error. -/
def rd : Nat → Nat → List UInt8 → Nat × Nat × Nat
  | _, _, [] => (0, 0, 5)
  | i, a, c :: cs =>
    if (i = 9 ∧ 1 < c.toNat) ∨ (0 < i ∧ c.toNat = 0) then (0, 0, 4)
    else if c.toNat < 128 then (a + c.toNat * 128 ^ i, i + 1, 0)
    else rd (i + 1) (a + c.toNat % 128 * 128 ^ i) cs
theorem rd_end (l : List UInt8) (i a : Nat) (h : l.length ≤ i) : rd i a (l.drop i) = (0, 0, 5) := by
  rw [List.drop_eq_nil_of_le h]; rfl
theorem rd_bad (l : List UInt8) (i a : Nat) (h : i < l.length) (hb : (i = 9 ∧ 1 < l[i].toNat) ∨ (0 < i ∧ l[i].toNat = 0)) : rd i a (l.drop i) = (0, 0, 4) := by
  rw [List.drop_eq_getElem_cons h, rd, if_pos hb]
theorem rd_last (l : List UInt8) (i a : Nat) (h : i < l.length) (hb : ¬ ((i = 9 ∧ 1 < l[i].toNat) ∨ (0 < i ∧ l[i].toNat = 0))) (hl : l[i].toNat < 128) : rd i a (l.drop i) = (a + l[i].toNat * 128 ^ i, i + 1, 0) := by
  rw [List.drop_eq_getElem_cons h, rd, if_neg hb, if_pos hl]
theorem rd_more (l : List UInt8) (i a : Nat) (h : i < l.length) (hb : ¬ ((i = 9 ∧ 1 < l[i].toNat) ∨ (0 < i ∧ l[i].toNat = 0))) (hl : 128 ≤ l[i].toNat) : rd i a (l.drop i) = rd (i + 1) (a + l[i].toNat % 128 * 128 ^ i) (l.drop (i + 1)) := by
  rw [List.drop_eq_getElem_cons h, rd, if_neg hb, if_neg (by omega)]
theorem low7 (c : UInt8) : bits .andNot .u8 (c.toNat : Int) 128 = ((c.toNat % 128 : Nat) : Int) := by
  rw [show (128 : Int) = ((128 : Nat) : Int) from rfl, u8_andNot_nat _ _ c.toNat_lt (by omega), show 255 - 128 = 127 from rfl, nat_mask7]
theorem ret3 {p q r v s x : Nat} (h : (p, q, r) = (v, s, x)) : Ending.returned (.tuple #[.int .u64 (p : Int), .int .i64 (q : Int), .int .i64 (r : Int)]) = .returned (.tuple #[.int .u64 (v : Int), .int .i64 (s : Int), .int .i64 (x : Int)]) := by
  simp only [Prod.mk.injEq] at h
  obtain ⟨rfl, rfl, rfl⟩ := h
  rfl
theorem or_shift (a d j : Nat) (ha : a < 128 ^ j) (hj : j ≤ 9) (hd : d < 128) (h9 : j = 9 → d ≤ 1) : bits .or .u64 (a : Int) (IntKind.u64.wrap ((d : Int) * 2 ^ (7 * j))) = ((a + d * 128 ^ j : Nat) : Int) := by
  rw [show ((2 : Int) ^ (7 * j)) = ((128 ^ j : Nat) : Int) from by rw [Int.pow_mul]; simp]
  have hp : d * 128 ^ j + 128 ^ j ≤ 18446744073709551616 := by
    rw [← Nat.succ_mul]
    rcases Nat.lt_or_ge j 9 with h | h
    · exact Nat.le_trans (Nat.mul_le_mul (show d.succ ≤ 128 by omega) (Nat.pow_le_pow_right (by omega) (show j ≤ 8 by omega))) (by decide)
    · have e : j = 9 := by omega
      have := h9 e
      subst e
      exact Nat.le_trans (Nat.mul_le_mul (show d.succ ≤ 2 by omega) (Nat.le_refl _)) (by decide)
  rw [← Int.natCast_mul, IntKind.wrap_u64, show ((d * 128 ^ j : Nat) : Int) % 18446744073709551616 = ((d * 128 ^ j : Nat) : Int) from by omega]
  rw [u64_or_nat _ _ (by omega) (by omega), Nat.or_comm, pow128, nat_join (7 * j) _ _ (by simp) (by rw [← pow128]; exact ha), Nat.add_comm]
theorem grows (a d j : Nat) (ha : a < 128 ^ j) (hd : d < 128) : a + d * 128 ^ j < 128 ^ (j + 1) := by
  rw [Nat.pow_succ, Nat.mul_comm _ 128]
  exact Nat.lt_of_lt_of_le (show a + d * 128 ^ j < (d + 1) * 128 ^ j by rw [Nat.succ_mul]; omega) (Nat.mul_le_mul (by omega) (Nat.le_refl _))
end Wd

set_option maxRecDepth 100000 in
set_option maxHeartbeats 1000000 in
theorem read_any (A : Option Addr) (l : List UInt8) (c B v s x : Nat) (w : World) (h : Wd.Bts w B A l) (hl : l.length ≤ 140737488355328) (hr : Wd.rd 0 0 l = (v, s, x)) :
    Calls Try.prog 16 #[.slice A l.length c] w fun e w' => e = .returned (.tuple #[.int .u64 (v : Int), .int .i64 (s : Int), .int .i64 (x : Int)]) ∧ w = w' := by
  have H := Lib.hid h
  have HR := Lib.hid hr
  clear h hr
  go_enter Try.func16, Try.ntmps16
  go_wp2
  go_loop [2, 9] (fun n i => ∃ j a : Nat, j ≤ l.length ∧ j ≤ 9 ∧ i = .int .i64 j ∧ n = .int .u64 (a : Int) ∧ Hid (a < 128 ^ j) ∧ Hid (Wd.rd j a (l.drop j) = (v, s, x))) (fun _ i => l.length - (intOf i).toNat)
  case atStart => exact ⟨0, 0, by omega, by omega, rfl, rfl, show 0 < _ by decide, by simpa using HR⟩
  case round =>
    obtain ⟨j, a, hj, hj9, rfl, rfl, HA, HJ⟩ := hrel
    by_cases hlt : j < l.length
    · obtain ⟨b, off, rfl, _, hc⟩ := H.out (by omega)
      have hc1 := hc j hlt
      have hb1 := Wd.rd_bad l j a hlt
      have hb2 := Wd.rd_last l j a hlt
      have hb3 := Wd.rd_more l j a hlt
      have h7 := Wd.low7 l[j]
      have hch := l[j].toNat_lt
      clear hc
      generalize l[j] = ch at *
      by_cases hbad : (j = 9 ∧ 1 < ch.toNat) ∨ (0 < j ∧ ch.toNat = 0)
      · have HE := Lib.hid ((hb1 hbad).symm.trans HJ.out)
        clear hb1 hb2 hb3 h7
        rcases (show (9 ≤ j ∧ 1 < ch.toNat) ∨ (j < 9 ∧ 0 < j ∧ ch.toNat < 1) ∨ (9 ≤ j ∧ ch.toNat < 1) from by omega) with ⟨q1, q2⟩ | ⟨q1, q2, q3⟩ | ⟨q1, q2⟩
        · have t1 : ((j : Int) == 9) = true := beq_iff_eq.2 (by omega)
          clear hbad
          go_wp2
          go_ret3
          exact ⟨Wd.ret3 HE.out, rfl⟩
        · have t1 : ((j : Int) == 9) = false := beq_eq_false_iff_ne.2 (by omega)
          have t2 : ((ch.toNat : Int) == 0) = true := beq_iff_eq.2 (by omega)
          clear hbad
          go_wp2
          go_ret3
          exact ⟨Wd.ret3 HE.out, rfl⟩
        · have t1 : ((j : Int) == 9) = true := beq_iff_eq.2 (by omega)
          have t2 : ((ch.toNat : Int) == 0) = true := beq_iff_eq.2 (by omega)
          clear hbad
          go_wp2
          go_ret3
          exact ⟨Wd.ret3 HE.out, rfl⟩
      · by_cases hsm : ch.toNat < 128
        · have HE := Lib.hid ((hb2 hbad hsm).symm.trans HJ.out)
          clear hb1 hb2 hb3
          have hd : ch.toNat % 128 = ch.toNat := by omega
          rw [hd] at h7
          have ho := Wd.or_shift a ch.toNat j HA.out hj9 (by omega) (by omega)
          clear hd
          generalize a + ch.toNat * 128 ^ j = z at *
          rcases (show (9 ≤ j ∧ ch.toNat ≤ 1 ∧ 0 < ch.toNat) ∨ (j < 9 ∧ 0 < j ∧ 0 < ch.toNat) ∨ (j < 1) from by omega) with ⟨q1, q2, q3⟩ | ⟨q1, q2, q3⟩ | q1
          · have t1 : ((j : Int) == 9) = true := beq_iff_eq.2 (by omega)
            have t2 : ((ch.toNat : Int) == 0) = false := beq_eq_false_iff_ne.2 (by omega)
            clear hbad
            go_wp2
            go_ret3
            exact ⟨Wd.ret3 HE.out, rfl⟩
          · have t1 : ((j : Int) == 9) = false := beq_eq_false_iff_ne.2 (by omega)
            have t2 : ((ch.toNat : Int) == 0) = false := beq_eq_false_iff_ne.2 (by omega)
            clear hbad
            go_wp2
            go_ret3
            exact ⟨Wd.ret3 HE.out, rfl⟩
          · have t1 : ((j : Int) == 9) = false := beq_eq_false_iff_ne.2 (by omega)
            clear hbad
            go_wp2
            go_ret3
            exact ⟨Wd.ret3 HE.out, rfl⟩
        · have HN := Lib.hid ((hb3 hbad (by omega)).symm.trans HJ.out)
          have hj8 : j < 9 := by omega
          have ho := Wd.or_shift a (ch.toNat % 128) j HA.out hj9 (by omega) (by omega)
          have HA2 := Lib.hid (Wd.grows a (ch.toNat % 128) j HA.out (by omega))
          clear hb1 hb2 hb3
          have hd : ch.toNat % 128 < 128 := by omega
          generalize ch.toNat % 128 = d at *
          generalize a + d * 128 ^ j = z at *
          have t1 : ((j : Int) == 9) = false := beq_eq_false_iff_ne.2 (by omega)
          have t2 : ((ch.toNat : Int) == 0) = false := beq_eq_false_iff_ne.2 (by omega)
          have t3 : 128 ≤ ch.toNat := by omega
          clear hbad hsm
          by_cases hj0 : 0 < j
          all_goals
            go_wp2
            go_round
            case rel => exact ⟨j + 1, z, by omega, by omega, by go_num, rfl, HA2, HN⟩
            case measure => simp [intOf]; omega
    · have HE := Lib.hid ((Wd.rd_end l j a (by omega)).symm.trans HJ.out)
      go_wp2
      go_ret3
      exact ⟨Wd.ret3 HE.out, rfl⟩
end Go.Proofs.Ytjnenicaheppeaa
