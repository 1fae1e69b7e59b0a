/- Contract of isSet. -/
import Derived.Test.YtonfkonjkgalhaaDoorPlHas
import Derived.Laws.BitsAllLaws
import Derived.IntWalk
namespace Go.Proofs.YtonfkonjkgalhaaDoor
open Go.RowKit Go.WideMaps
set_option linter.unusedVariables false

namespace Pl
def gN (l : List Nat) (k : Nat) : Nat := l.getD k 0
/-- The slice at A holds the numbers l of 64 bits. -/
def Nums (w : World) (B : Nat) (A : Option Addr) (l : List Nat) : Prop :=
  0 < l.length → ∃ b off, A = some ⟨b, off, none⟩ ∧ b < B ∧ ∀ j, j < l.length → w.cell? ⟨b, off + j, none⟩ = some (.int .u64 (gN l j))
theorem and63 (n : Nat) (h : n < 2 ^ 62) : bits .and .i64 (n : Int) 63 = ((n % 64 : Nat) : Int) := by
  have h1 : (BitVec.ofInt 64 (n : Int)).toNat = n := by
    rw [BitVec.ofInt_natCast, BitVec.toNat_ofNat]; exact Nat.mod_eq_of_lt (by omega)
  show IntKind.i64.wrap ((BitVec.ofInt 64 (n : Int) &&& BitVec.ofInt 64 63).toNat : Int) = _
  rw [BitVec.toNat_and, h1, show (BitVec.ofInt 64 63).toNat = 63 by decide, nat_mask6]
  exact IntWalk.i64_in _ (by omega)
theorem on_bits (n v : Nat) (h : n < 2 ^ 62) (hv : v < 18446744073709551616) : (bits .and .u64 ((v : Int) / 2 ^ min (IntKind.u64.wrap (bits .and .i64 (n : Int) 63)).toNat 64) 1 == 1) = v.testBit (n % 64) := by
  rw [and63 n h]
  have h1 : IntKind.u64.wrap ((n % 64 : Nat) : Int) = ((n % 64 : Nat) : Int) := by rw [IntKind.wrap_u64]; omega
  rw [h1, Int.toNat_natCast, Nat.min_eq_left (by omega)]
  have h2 : ((v : Int) / 2 ^ (n % 64)) = ((v / 2 ^ (n % 64) : Nat) : Int) := by simp
  rw [h2]
  have h3 : v / 2 ^ (n % 64) < 18446744073709551616 := Nat.lt_of_le_of_lt (Nat.div_le_self _ _) hv
  have h4 := u64_and_nat (v / 2 ^ (n % 64)) 1 h3 (by decide)
  have h5 : ((1 : Nat) : Int) = 1 := rfl
  rw [h5] at h4
  rw [h4, nat_mask1, Nat.testBit_eq_decide_div_mod_eq]
  rw [Bool.eq_iff_iff, beq_iff_eq, decide_eq_true_iff]
  omega
theorem or_bits (n v : Nat) (h : n < 2 ^ 62) (hv : v < 18446744073709551616) : bits .or .u64 (v : Int) (IntKind.u64.wrap (2 ^ min (IntKind.u64.wrap (bits .and .i64 (n : Int) 63)).toNat 64)) = ((v ||| 2 ^ (n % 64) : Nat) : Int) := by
  rw [and63 n h]
  have h1 : IntKind.u64.wrap ((n % 64 : Nat) : Int) = ((n % 64 : Nat) : Int) := by rw [IntKind.wrap_u64]; omega
  rw [h1, Int.toNat_natCast, Nat.min_eq_left (by omega)]
  have h2 : (2 : Nat) ^ (n % 64) < 18446744073709551616 := show _ < 2 ^ 64 from Nat.pow_lt_pow_right (a := 2) (by decide) (by omega)
  have h3 : ((2 : Int) ^ (n % 64)) = ((2 ^ (n % 64) : Nat) : Int) := by simp
  rw [h3, IntKind.wrap_u64]
  generalize 2 ^ (n % 64) = y at *
  rw [show ((y : Int) % 18446744073709551616) = (y : Int) by omega]
  exact u64_or_nat v y hv h2
def on (l : List Nat) (n : Nat) : Bool := (gN l (n / 64)).testBit (n % 64)
end Pl
theorem isSet_any (A : Option Addr) (l : List Nat) (cap B : Nat) (x : Int) (n : Nat) (w : World) (hx : x = n) (h : Pl.Nums w B A l) (hn : n / 64 < l.length) (hl : l.length ≤ 1000000) (h64 : ∀ j, Pl.gN l j < 18446744073709551616) :
    Calls Tryd.prog 46 #[.slice A l.length cap, .int .i64 x] w fun e w' => e = .returned (.bool (Pl.on l n)) ∧ w = w' := by
  obtain ⟨b, off, rfl, hb, hc⟩ := h (by omega)
  have c0 := hc _ hn
  have HX := Lib.hid hx
  have x0 : 0 ≤ x := by omega
  have x1 : x ≤ 64000000 := by omega
  have hq : x / 64 = (n / 64 : Nat) := by omega
  have hn62 : n < 2 ^ 62 := by omega
  have hlt : x / 64 < l.length := by omega
  generalize hv : Pl.gN l (n / 64) = v at c0
  have HA : Hid (Pl.gN l (n / 64) = v) := hv
  have hv2 : v < 18446744073709551616 := by rw [← hv]; exact h64 _
  have HR : Hid (Pl.on l n = v.testBit (n % 64)) := show _ = _ by unfold Pl.on; rw [hv]
  clear hv
  generalize n / 64 = a at *
  clear hx hc h
  go_enter Tryd.func46, Tryd.ntmps46
  go_wp2
  go_ret
  exact ⟨Pl.ret_bool (by rw [HX.out, Pl.on_bits n v hn62 hv2]; exact HR.out.symm), rfl⟩
end Go.Proofs.YtonfkonjkgalhaaDoor
