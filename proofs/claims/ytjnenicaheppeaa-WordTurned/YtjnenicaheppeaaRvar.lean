/- Contract of the document's Var. -/
import Derived.Test.YtjnenicaheppeaaVar
namespace Go.Proofs.Ytjnenicaheppeaa
open Go.RowKit
set_option linter.unusedVariables false


set_option maxRecDepth 100000 in
set_option maxHeartbeats 400000 in
theorem rvar_core (l : List UInt8) (n k : Nat) (w : World) (hl : l.length ≤ 140737488355328) (hn : n < 18446744073709551616) (hk9 : k ≤ 9) (hst : ∀ j, j < k → 128 ≤ n / 128 ^ j) (hlast : n / 128 ^ k < 128) :
    Calls Try.prog 19 #[.string ⟨l.toArray⟩, .int .u64 (n : Int)] w fun e w' => e = .returned (.string ⟨(l ++ Wd.varK n k).toArray⟩) ∧ Below w.heap.size w w' := by
  have HST := Lib.hid hst
  have HL := Lib.hid hlast
  clear hst hlast
  go_enter Try.func19, Try.ntmps19
  go_wp2
  go_loopw [0, 1] (fun d m wr => ∃ j v : Nat, ∃ dl : List UInt8, j ≤ k ∧ m = .int .u64 (v : Int) ∧ Hid (v = n / 128 ^ j) ∧ d = .string ⟨dl.toArray⟩ ∧ Hid (dl = l ++ Wd.vpre n j) ∧ Below w.heap.size w wr) (fun _ m _ => (intOf m).toNat)
  case atStart => exact ⟨0, n, l, by omega, rfl, show n = _ by simp, rfl, show l = _ by simp [Wd.vpre], Below.refl _ _⟩
  case round =>
    obtain ⟨j, v, dl, hj, rfl, HV, rfl, HD, hb⟩ := hrel
    have hdl : dl.length ≤ 150000000000000 := by rw [HD.out, List.length_append, Wd.length_vpre]; omega
    have hv : (v : Int) ≤ 18446744073709551615 := by have : v ≤ n := by rw [HV.out]; exact Nat.div_le_self _ _
                                                     omega
    by_cases hlt : j < k
    · have h128 : 128 ≤ v := by rw [HV.out]; exact HST.out j hlt
      have hcv := Wd.conv1 wr ((v : Int) % 128 + 128) (UInt8.ofNat (v % 128 + 128)) (by simp [UInt8.toNat_ofNat']; omega)
      have HV2 : Hid (v / 128 = n / 128 ^ (j + 1)) := show _ = _ by rw [HV.out, Nat.pow_succ, Nat.div_div_eq_div_mul]
      have HD2 : Hid (dl ++ [UInt8.ofNat (v % 128 + 128)] = l ++ Wd.vpre n (j + 1)) := show _ = _ by rw [HV.out, HD.out, Wd.vpre_succ, List.append_assoc]
      have hbn := hb.alloc hb.size (.cells #[.int .u8 ((v : Int) % 128 + 128)] 5)
      generalize UInt8.ofNat (v % 128 + 128) = ch at *
      go_wp2
      go_roundw
      case rel => exact ⟨j + 1, v / 128, dl ++ [ch], by omega, Wd.val_int (by omega), HV2, Wd.str_app dl [ch], HD2, hbn⟩
      case measure => simp [intOf]; omega
    · have h128 : v < 128 := by rw [HV.out, show j = k by omega]; exact HL.out
      have hcv := Wd.conv1 wr ((v : Int)) (UInt8.ofNat v) (by simp [UInt8.toNat_ofNat']; omega)
      have HD2 : Hid (dl ++ [UInt8.ofNat v] = l ++ Wd.varK n k) := show _ = _ by rw [HV.out, HD.out, show j = k by omega, Wd.varK, List.append_assoc]
      have hbn := hb.alloc hb.size (.cells #[.int .u8 (v : Int)] 5)
      generalize UInt8.ofNat v = ch at *
      go_wp2
      go_ret
      exact ⟨by rw [← HD2.out]; exact Wd.ret_val (Wd.str_app dl [ch]), hbn⟩
theorem rvar_any (l : List UInt8) (n : Nat) (w : World) (hl : l.length ≤ 140737488355328) (hn : n < 18446744073709551616) :
    Calls Try.prog 19 #[.string ⟨l.toArray⟩, .int .u64 (n : Int)] w fun e w' => e = .returned (.string ⟨(l ++ Wd.varL n).toArray⟩) ∧ Below w.heap.size w w' :=
  rvar_core l n (Wd.vsz n) w hl hn (Wd.vsz_bd n hn) (fun j hj => Wd.vsz_step n j hj) (Wd.vsz_last n)
end Go.Proofs.Ytjnenicaheppeaa
