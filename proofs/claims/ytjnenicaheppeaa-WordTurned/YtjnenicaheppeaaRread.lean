/- Contract of the document's ReadVar. -/
import Derived.Test.YtjnenicaheppeaaRead
namespace Go.Proofs.Ytjnenicaheppeaa
open Go.RowKit
set_option linter.unusedVariables false

namespace Wd
theorem add_unit (a c j u : Nat) (hu : u = 128 ^ j) (ha : a < 128 ^ j) (hj : j ≤ 9) (hc : c < 256) (h9 : j = 9 → c ≤ 1) :
    IntKind.u64.wrap ((a : Int) + IntKind.u64.wrap ((c : Int) % 128 * (u : Int))) = ((a + c % 128 * 128 ^ j : Nat) : Int) := by
  subst hu
  have hp : c % 128 * 128 ^ j + 128 ^ j ≤ 18446744073709551616 := by
    rw [← Nat.succ_mul]
    rcases Nat.lt_or_ge j 9 with h | h
    · exact Nat.le_trans (Nat.mul_le_mul (show (c % 128).succ ≤ 128 by omega) (Nat.pow_le_pow_right (by omega) (show j ≤ 8 by omega))) (by decide)
    · have e : j = 9 := by omega
      have := h9 e
      subst e
      exact Nat.le_trans (Nat.mul_le_mul (show (c % 128).succ ≤ 2 by omega) (Nat.le_refl _)) (by decide)
  rw [show ((c : Int) % 128) = ((c % 128 : Nat) : Int) from by omega, ← Int.natCast_mul]
  generalize c % 128 * 128 ^ j = q at *
  rw [IntKind.wrap_u64, IntKind.wrap_u64]
  omega
theorem next_unit (u j : Nat) (hu : u = 128 ^ j) (hj : j ≤ 8) : ∃ v : Nat, IntKind.u64.wrap ((u : Int) * 128) = (v : Int) ∧ Hid (v = 128 ^ (j + 1)) := by
  refine ⟨128 ^ (j + 1), ?_, show _ = _ from rfl⟩
  have hp : 128 ^ (j + 1) ≤ 9223372036854775808 := Nat.le_trans (Nat.pow_le_pow_right (by omega) (show j + 1 ≤ 9 by omega)) (by decide)
  rw [Nat.pow_succ, ← hu] at *
  rw [IntKind.wrap_u64]
  omega
end Wd

set_option maxRecDepth 100000 in
set_option maxHeartbeats 1000000 in
theorem rread_any (l : List UInt8) (v s x : Nat) (w : World) (hl : l.length ≤ 140737488355328) (hr : Wd.rd 0 0 l = (v, s, x)) :
    Calls Try.prog 17 #[.string ⟨l.toArray⟩] w fun e w' => e = .returned (.tuple #[.int .u64 (v : Int), .int .i64 (s : Int), .int .i64 (x : Int)]) ∧ w = w' := by
  have HR := Lib.hid hr
  clear hr
  go_enter Try.func17, Try.ntmps17
  go_wp2
  go_loop [5, 6, 7] (fun n t i => ∃ j a u : Nat, j ≤ l.length ∧ j ≤ 9 ∧ i = .int .i64 j ∧ n = .int .u64 (a : Int) ∧ t = .int .u64 (u : Int) ∧ Hid (u = 128 ^ j) ∧ Hid (a < 128 ^ j) ∧ Hid (Wd.rd j a (l.drop j) = (v, s, x))) (fun _ _ i => l.length - (intOf i).toNat)
  case atStart => exact ⟨0, 0, 1, by omega, by omega, rfl, rfl, rfl, show 1 = _ by rfl, show 0 < _ by decide, by simpa using HR⟩
  case round =>
    obtain ⟨j, a, u, hj, hj9, rfl, rfl, rfl, HU, HA, HJ⟩ := hrel
    by_cases hlt : j < l.length
    · obtain ⟨ch, hch0⟩ : ∃ ch, ch = l[j] := ⟨_, rfl⟩
      have hb1 := Wd.rd_bad l j a hlt
      have hb2 := Wd.rd_last l j a hlt
      have hb3 := Wd.rd_more l j a hlt
      have hix : (⟨l.toArray⟩ : ByteArray)[j]'hlt = ch := hch0.symm
      rw [← hch0] at hb1 hb2 hb3
      have hch := ch.toNat_lt
      clear hch0
      by_cases hbad : (j = 9 ∧ 1 < ch.toNat) ∨ (0 < j ∧ ch.toNat = 0)
      · have HE := Lib.hid ((hb1 hbad).symm.trans HJ.out)
        clear hb1 hb2 hb3
        rcases (show (9 ≤ j ∧ 1 < ch.toNat) ∨ (j < 9 ∧ 0 < j ∧ ch.toNat < 1) ∨ (9 ≤ j ∧ ch.toNat < 1) from by omega) with ⟨q1, q2⟩ | ⟨q1, q2, q3⟩ | ⟨q1, q2⟩
        · have t1 : ((j : Int) == 9) = true := beq_iff_eq.2 (by omega)
          clear hbad
          go_wp2
          go_ret3
          exact ⟨Wd.ret3 HE.out, rfl⟩
        · have t1 : ((j : Int) == 9) = false := beq_eq_false_iff_ne.2 (by omega)
          have t2 : ((ch.toNat : Int) == 0) = true := beq_iff_eq.2 (by omega)
          clear hbad
          go_wp2
          go_ret3
          exact ⟨Wd.ret3 HE.out, rfl⟩
        · have t1 : ((j : Int) == 9) = true := beq_iff_eq.2 (by omega)
          have t2 : ((ch.toNat : Int) == 0) = true := beq_iff_eq.2 (by omega)
          clear hbad
          go_wp2
          go_ret3
          exact ⟨Wd.ret3 HE.out, rfl⟩
      · by_cases hsm : ch.toNat < 128
        · have HE := Lib.hid ((hb2 hbad hsm).symm.trans HJ.out)
          clear hb1 hb2 hb3
          have ho := Wd.add_unit a ch.toNat j u HU.out HA.out hj9 (by omega) (by omega)
          rw [show ch.toNat % 128 = ch.toNat from by omega] at ho
          generalize a + ch.toNat * 128 ^ j = z at *
          rcases (show (9 ≤ j ∧ ch.toNat ≤ 1 ∧ 0 < ch.toNat) ∨ (j < 9 ∧ 0 < j ∧ 0 < ch.toNat) ∨ (j < 1) from by omega) with ⟨q1, q2, q3⟩ | ⟨q1, q2, q3⟩ | q1
          · have t1 : ((j : Int) == 9) = true := beq_iff_eq.2 (by omega)
            have t2 : ((ch.toNat : Int) == 0) = false := beq_eq_false_iff_ne.2 (by omega)
            clear hbad
            go_wp2
            go_ret3
            exact ⟨Wd.ret3 HE.out, rfl⟩
          · have t1 : ((j : Int) == 9) = false := beq_eq_false_iff_ne.2 (by omega)
            have t2 : ((ch.toNat : Int) == 0) = false := beq_eq_false_iff_ne.2 (by omega)
            clear hbad
            go_wp2
            go_ret3
            exact ⟨Wd.ret3 HE.out, rfl⟩
          · have t1 : ((j : Int) == 9) = false := beq_eq_false_iff_ne.2 (by omega)
            clear hbad
            go_wp2
            go_ret3
            exact ⟨Wd.ret3 HE.out, rfl⟩
        · have HN := Lib.hid ((hb3 hbad (by omega)).symm.trans HJ.out)
          have hj8 : j < 9 := by omega
          have ho := Wd.add_unit a ch.toNat j u HU.out HA.out hj9 (by omega) (by omega)
          have HA2 := Lib.hid (Wd.grows a (ch.toNat % 128) j HA.out (by omega))
          clear hb1 hb2 hb3
          obtain ⟨u2, hu, HU2⟩ := Wd.next_unit u j HU.out (by omega)
          generalize a + ch.toNat % 128 * 128 ^ j = z at *
          have t1 : ((j : Int) == 9) = false := beq_eq_false_iff_ne.2 (by omega)
          have t2 : ((ch.toNat : Int) == 0) = false := beq_eq_false_iff_ne.2 (by omega)
          have t3 : 128 ≤ ch.toNat := by omega
          clear hbad hsm
          by_cases hj0 : 0 < j
          all_goals
            go_wp2
            go_round
            case rel => exact ⟨j + 1, z, u2, by omega, by omega, by go_num, rfl, rfl, HU2, HA2, HN⟩
            case measure => simp [intOf]; omega
    · have HE := Lib.hid ((Wd.rd_end l j a (by omega)).symm.trans HJ.out)
      go_wp2
      go_ret3
      exact ⟨Wd.ret3 HE.out, rfl⟩
end Go.Proofs.Ytjnenicaheppeaa
