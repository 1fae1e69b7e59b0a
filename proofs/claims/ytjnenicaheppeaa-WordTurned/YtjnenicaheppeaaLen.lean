/- Contract of math/bits.Len64: it answers how many bits a number has. -/
import Derived.Test.YtjnenicaheppeaaSum
import Derived.Lib.Strings
import Derived.Lib.Slices
import Derived.Lib.Small
import Derived.Lib.Walk
import Derived.Lib.BitFns
namespace Go.Proofs.Ytjnenicaheppeaa
open Go.RowKit

namespace Wd
theorem len_close (x q : Int) (k d : Nat) (h0 : 0 ≤ q) (h1 : q ≤ 255) (hd : 2 ^ k = d) (hq : q.toNat = x.toNat / d) (hk : d ≤ x.toNat) (hx : x.toNat < 18446744073709551616) :
    (k : Int) + Lib.len8 q = ((Lib.bitLen x.toNat : Nat) : Int) := by
  rw [Lib.len8_of q h0 h1, Lib.bitLen_shift k x.toNat (by rw [hd]; exact hk) hx, hd, hq]
  omega
theorem len8_bd (q : Int) (h0 : 0 ≤ q) (h1 : q ≤ 255) : 0 ≤ Lib.len8 q ∧ Lib.len8 q ≤ 8 := by
  rw [Lib.len8_of q h0 h1]
  have := Lib.bitLen_le8' q h0 h1
  omega
end Wd

set_option maxHeartbeats 4000000 in
set_option maxRecDepth 100000 in
theorem len_any (x : Int) (w : World) (h0 : 0 ≤ x) (h1 : x ≤ 18446744073709551615) :
    Calls Try.prog 26 #[.int .u64 x] w fun e w' => e = .returned (.int .i64 (Lib.bitLen x.toNat)) ∧ w = w' := by
  rcases (show (72057594037927936 ≤ x) ∨ (281474976710656 ≤ x ∧ x < 72057594037927936) ∨ (1099511627776 ≤ x ∧ x < 281474976710656) ∨ (4294967296 ≤ x ∧ x < 1099511627776) ∨ (16777216 ≤ x ∧ x < 4294967296) ∨ (65536 ≤ x ∧ x < 16777216) ∨ (256 ≤ x ∧ x < 65536) ∨ (x < 256) from by omega) with h | h | h | h | h | h | h | h
  · have b0 : 0 ≤ x / 4294967296 / 65536 / 256 := by omega
    have b1 : x / 4294967296 / 65536 / 256 ≤ 255 := by omega
    have b2 := Wd.len8_bd _ b0 b1
    obtain ⟨b3, b4⟩ := b2
    go_enter Try.func26, Try.ntmps26
    go_wp2
    go_ret
    exact ⟨Wd.ret_int (Wd.len_close x _ 56 72057594037927936 b0 b1 (by decide) (by omega) (by omega) (by omega)), rfl⟩
  · have b0 : 0 ≤ x / 4294967296 / 65536 := by omega
    have b1 : x / 4294967296 / 65536 ≤ 255 := by omega
    have b2 := Wd.len8_bd _ b0 b1
    obtain ⟨b3, b4⟩ := b2
    obtain ⟨ha, hb⟩ := h
    go_enter Try.func26, Try.ntmps26
    go_wp2
    go_ret
    exact ⟨Wd.ret_int (Wd.len_close x _ 48 281474976710656 b0 b1 (by decide) (by omega) (by omega) (by omega)), rfl⟩
  · have b0 : 0 ≤ x / 4294967296 / 256 := by omega
    have b1 : x / 4294967296 / 256 ≤ 255 := by omega
    have b2 := Wd.len8_bd _ b0 b1
    obtain ⟨b3, b4⟩ := b2
    obtain ⟨ha, hb⟩ := h
    go_enter Try.func26, Try.ntmps26
    go_wp2
    go_ret
    exact ⟨Wd.ret_int (Wd.len_close x _ 40 1099511627776 b0 b1 (by decide) (by omega) (by omega) (by omega)), rfl⟩
  · have b0 : 0 ≤ x / 4294967296 := by omega
    have b1 : x / 4294967296 ≤ 255 := by omega
    have b2 := Wd.len8_bd _ b0 b1
    obtain ⟨b3, b4⟩ := b2
    obtain ⟨ha, hb⟩ := h
    go_enter Try.func26, Try.ntmps26
    go_wp2
    go_ret
    exact ⟨Wd.ret_int (Wd.len_close x _ 32 4294967296 b0 b1 (by decide) (by omega) (by omega) (by omega)), rfl⟩
  · have b0 : 0 ≤ x / 65536 / 256 := by omega
    have b1 : x / 65536 / 256 ≤ 255 := by omega
    have b2 := Wd.len8_bd _ b0 b1
    obtain ⟨b3, b4⟩ := b2
    obtain ⟨ha, hb⟩ := h
    go_enter Try.func26, Try.ntmps26
    go_wp2
    go_ret
    exact ⟨Wd.ret_int (Wd.len_close x _ 24 16777216 b0 b1 (by decide) (by omega) (by omega) (by omega)), rfl⟩
  · have b0 : 0 ≤ x / 65536 := by omega
    have b1 : x / 65536 ≤ 255 := by omega
    have b2 := Wd.len8_bd _ b0 b1
    obtain ⟨b3, b4⟩ := b2
    obtain ⟨ha, hb⟩ := h
    go_enter Try.func26, Try.ntmps26
    go_wp2
    go_ret
    exact ⟨Wd.ret_int (Wd.len_close x _ 16 65536 b0 b1 (by decide) (by omega) (by omega) (by omega)), rfl⟩
  · have b0 : 0 ≤ x / 256 := by omega
    have b1 : x / 256 ≤ 255 := by omega
    have b2 := Wd.len8_bd _ b0 b1
    obtain ⟨b3, b4⟩ := b2
    obtain ⟨ha, hb⟩ := h
    go_enter Try.func26, Try.ntmps26
    go_wp2
    go_ret
    exact ⟨Wd.ret_int (Wd.len_close x _ 8 256 b0 b1 (by decide) (by omega) (by omega) (by omega)), rfl⟩
  · have b0 : 0 ≤ x := by omega
    have b1 : x ≤ 255 := by omega
    have b2 := Wd.len8_bd _ b0 b1
    obtain ⟨b3, b4⟩ := b2
    go_enter Try.func26, Try.ntmps26
    go_wp2
    go_ret
    exact ⟨Wd.ret_int (Lib.len8_of x b0 b1), rfl⟩
end Go.Proofs.Ytjnenicaheppeaa
