/- Contracts of the two check sums: word.Sum over parts, the document's Sum over a text. -/
import Derived.Test.YtogkaoiiddhdbaaWStir
import Derived.Lib.Hide
namespace Go.Proofs.Ytogkaoiiddhdbaa
open Go.RowKit

namespace Wd
/-- The slice at A holds the bytes l, in a block below B. -/
def Bts (w : World) (B : Nat) (A : Option Addr) (l : List UInt8) : Prop :=
  0 < l.length → ∃ b off, A = some ⟨b, off, none⟩ ∧ b < B ∧ ∀ j (hj : j < l.length), w.cell? ⟨b, off + j, none⟩ = some (.int .u8 (l[j].toNat : Int))
/-- The slice at A holds slices that hold the bytes of ps. -/
def Prts (w : World) (B : Nat) (A : Option Addr) (ps : List (List UInt8)) : Prop :=
  0 < ps.length → ∃ b off, A = some ⟨b, off, none⟩ ∧ b < B ∧ ∀ j (hj : j < ps.length), ∃ A' c, w.cell? ⟨b, off + j, none⟩ = some (.slice A' ps[j].length c) ∧ Bts w B A' ps[j]

theorem xor_byte (s : Nat) (c : UInt8) (h : s < 4294967296) : bits .xor .u32 (s : Int) (c.toNat : Int) = ((s ^^^ c.toNat : Nat) : Int) :=
  u32_xor_nat s c.toNat h (by have := c.toNat_lt; omega)
theorem take_snoc' {α : Type} (l : List α) (k : Nat) (h : k < l.length) : l.take (k + 1) = l.take k ++ [l[k]] := List.take_succ_eq_append_getElem h
theorem not_u32 {s : Nat} (h : s < 4294967296) : bits .xor .u32 IntKind.u32.max (s : Int) = ((4294967295 - s : Nat) : Int) := by
  rw [show IntKind.u32.max = ((4294967295 : Nat) : Int) from rfl, u32_xor_nat _ _ (by omega) h]
  have e : (BitVec.allOnes 32 ^^^ BitVec.ofNat 32 s).toNat = (~~~ (BitVec.ofNat 32 s)).toNat := by rw [BitVec.allOnes_xor]
  rw [BitVec.toNat_xor, BitVec.toNat_not, BitVec.toNat_allOnes, BitVec.toNat_ofNat, Nat.mod_eq_of_lt (by omega)] at e
  simp only [Nat.reducePow, Nat.reduceSub] at e
  rw [e]
theorem rs_bit (b : UInt8) (j : Nat) : (((b.toNat : Int) % 4294967296 / 2 ^ j).tmod 2) = ((b.toNat / 2 ^ j % 2 : Nat) : Int) := by
  have hb := b.toNat_lt
  rw [show ((b.toNat : Int) % 4294967296) = ((b.toNat : Nat) : Int) from by omega]
  rw [show ((2 : Int) ^ j) = ((2 ^ j : Nat) : Int) from by simp]
  rw [← Int.natCast_ediv]
  generalize b.toNat / 2 ^ j = q
  rw [Int.tmod_eq_emod_of_nonneg (Int.natCast_nonneg q)]
  omega
theorem rs_yes (b : UInt8) (x j : Nat) (hx : x < 4294967296) (h : (((b.toNat : Int) % 4294967296 / 2 ^ j).tmod 2 != (x : Int) % 2) = true) :
    bits .xor .u32 ((x : Int) / 2) 3988292384 = ((rstep x (b.toNat / 2 ^ j % 2) : Nat) : Int) := by
  rw [rs_bit, bne_iff_ne] at h
  unfold rstep
  rw [if_neg (by omega), u32_xor _ _ (by omega) (by omega) (by omega) (by omega), show ((x : Int) / 2).toNat = x / 2 from by omega]
  rfl
theorem rs_no (b : UInt8) (x j : Nat) (_hx : x < 4294967296) (h : (((b.toNat : Int) % 4294967296 / 2 ^ j).tmod 2 != (x : Int) % 2) = false) :
    (x : Int) / 2 = ((rstep x (b.toNat / 2 ^ j % 2) : Nat) : Int) := by
  rw [rs_bit, bne_eq_false_iff_eq] at h
  unfold rstep
  rw [if_pos (by omega)]
  omega
end Wd

set_option maxHeartbeats 400000 in
theorem sum_any (A : Option Addr) (c B : Nat) (ps : List (List UInt8)) (w : World) (hp : Wd.Prts w B A ps) (hn : ps.length ≤ 1152921504606846976) (hl : ∀ j (hj : j < ps.length), ps[j].length ≤ 1152921504606846976) :
    Calls Try.prog 95 #[.slice A ps.length c] w fun e w' => e = .returned (.int .u32 ((4294967295 - Wd.crcs 4294967295 ps : Nat) : Int)) ∧ w = w' := by
  have HL := Lib.hid hl
  have HP := Lib.hid hp
  clear hl hp
  go_enter Try.func95, Try.ntmps95
  go_wp2
  go_loop [3, 10] (fun s i => ∃ k : Nat, k ≤ ps.length ∧ i = .int .i64 k ∧ s = .int .u32 ((Wd.crcs 4294967295 (ps.take k) : Nat) : Int)) (fun _ i => ps.length - (intOf i).toNat)
  case atStart => exact ⟨0, by omega, rfl, rfl⟩
  case round =>
    obtain ⟨k, hk, rfl, rfl⟩ := hrel
    have hb := Wd.crcs_lt (s := 4294967295) (by omega) (ps.take k)
    by_cases hlt : k < ps.length
    · obtain ⟨b, off, rfl, _, hc⟩ := HP.out (by omega)
      obtain ⟨A', c', hc1, hb1⟩ := hc k hlt
      have hlen := HL.out k hlt
      have HB := Lib.hid hb1
      have HS := Lib.hid (Wd.crcs_snoc 4294967295 (ps.take k) ps[k])
      rw [← Wd.take_snoc' ps k hlt] at HS
      clear hc hb1
      generalize Wd.crcs 4294967295 (ps.take k) = s0 at *
      generalize ps[k] = p at *
      go_wp2
      go_loop [3, 16] (fun s i => ∃ j : Nat, j ≤ p.length ∧ i = .int .i64 j ∧ s = .int .u32 ((Wd.crcOn s0 (p.take j) : Nat) : Int)) (fun _ i => p.length - (intOf i).toNat)
      case atStart => exact ⟨0, by omega, rfl, rfl⟩
      case round =>
        obtain ⟨j, hj, rfl, rfl⟩ := hrel
        have hb2 := Wd.crcOn_lt hb (p.take j)
        by_cases hjl : j < p.length
        · obtain ⟨b', off', rfl, _, hc'⟩ := HB.out (by omega)
          have hc2 := hc' j hjl
          have HS2 := Lib.hid (Wd.crcOn_snoc s0 (p.take j) p[j])
          rw [← Wd.take_snoc' p j hjl] at HS2
          have hx := Wd.xor_byte (Wd.crcOn s0 (p.take j)) p[j] hb2
          have hxl := Wd.xor_byte_lt hb2 p[j]
          clear hc'
          generalize Wd.crcOn s0 (p.take j) = s1 at *
          generalize p[j] = ch at *
          have hch := ch.toNat_lt
          go_wp2_with (go_at_call 100; refine (stir_any _ _ hxl).mono ?_; rintro e w' ⟨rfl, rfl⟩)
          go_round
          case rel => exact ⟨j + 1, by omega, by go_num, Wd.val_int (by rw [HS2.out])⟩
          case measure => simp [intOf]; omega
        · obtain rfl : j = p.length := by omega
          rw [List.take_length] at *
          go_wp2
          go_round
          case rel => exact ⟨k + 1, by omega, by go_num, Wd.val_int (by rw [HS.out])⟩
          case measure => simp [intOf]; omega
    · go_wp2
      go_ret
      obtain rfl : k = ps.length := by omega
      rw [List.take_length] at hb
      refine ⟨Wd.ret_int ?_, rfl⟩
      rw [List.take_length]
      exact Wd.not_u32 hb

def Str (l : List UInt8) : Value := .string ⟨l.toArray⟩

set_option maxHeartbeats 400000 in
theorem rsum_any (l : List UInt8) (w : World) (hn : l.length ≤ 1152921504606846976) :
    Calls Try.prog 97 #[.string ⟨l.toArray⟩] w fun e w' => e = .returned (.int .u32 ((Wd.crc l : Nat) : Int)) ∧ w = w' := by
  go_enter Try.func97, Try.ntmps97
  go_wp2
  go_loop [3, 4] (fun s i => ∃ k : Nat, k ≤ l.length ∧ i = .int .i64 k ∧ s = .int .u32 ((Wd.crcOn 4294967295 (l.take k) : Nat) : Int)) (fun _ i => l.length - (intOf i).toNat)
  case atStart => exact ⟨0, by omega, rfl, rfl⟩
  case round =>
    obtain ⟨k, hk, rfl, rfl⟩ := hrel
    have hb := Wd.crcOn_lt (s := 4294967295) (by omega) (l.take k)
    by_cases hlt : k < l.length
    · have HS := Lib.hid (Wd.crcOn_snoc 4294967295 (l.take k) l[k])
      rw [← Wd.take_snoc' l k hlt] at HS
      generalize Wd.crcOn 4294967295 (l.take k) = s0 at *
      go_wp2
      go_loop [3, 5] (fun s i => ∃ j : Nat, j ≤ 8 ∧ i = .int .i64 j ∧ s = .int .u32 ((Wd.rsteps l[k].toNat j s0 : Nat) : Int)) (fun _ i => 8 - (intOf i).toNat)
      case atStart => exact ⟨0, by omega, rfl, rfl⟩
      case round =>
        obtain ⟨j, hj, rfl, rfl⟩ := hrel
        have hb2 := Wd.rsteps_lt l[k].toNat j hb
        by_cases hjl : j < 8
        · go_wp2
          · go_round
            case rel => exact ⟨j + 1, by omega, by go_num, Wd.val_int (Wd.rs_yes l[k] _ j hb2 (by assumption))⟩
            case measure => simp [intOf]; omega
          · go_round
            case rel => exact ⟨j + 1, by omega, by go_num, Wd.val_int (Wd.rs_no l[k] _ j hb2 (by assumption))⟩
            case measure => simp [intOf]; omega
        · obtain rfl : j = 8 := by omega
          go_wp2
          go_round
          case rel => exact ⟨k + 1, by omega, by go_num, Wd.val_int (by rw [HS.out, Wd.rsteps_byte])⟩
          case measure => simp [intOf]; omega
    · go_wp2
      go_ret
      obtain rfl : k = l.length := by omega
      rw [List.take_length] at hb
      refine ⟨Wd.ret_int ?_, rfl⟩
      rw [List.take_length]
      unfold Wd.crc
      omega
end Go.Proofs.Ytogkaoiiddhdbaa
