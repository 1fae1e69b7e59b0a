/- Contract of the document's Put. -/
import Derived.Test.YtogkaoiiddhdbaaWGet
namespace Go.Proofs.Ytogkaoiiddhdbaa
open Go.RowKit

namespace Wd
theorem conv1 (w : World) (x : Int) (c : UInt8) (h : x = (c.toNat : Int)) :
    (convert 40 9 (.slice (some ⟨w.heap.size, 0, none⟩) 1 1)).run Try.prog (w.alloc (.cells #[.int .u8 x] 5)) = .ok (.string ⟨#[c]⟩) (w.alloc (.cells #[.int .u8 x] 5)) := by
  subst h
  have hr : Row (w.alloc (.cells #[.int .u8 (c.toNat : Int)] 5)) w.heap.size [c] := heap_alloc_new w _
  exact conv (hr.bts (Nat.lt_succ_self _)) 1
theorem app_str (a b : List UInt8) : (⟨a.toArray⟩ : ByteArray) ++ ⟨b.toArray⟩ = ⟨(a ++ b).toArray⟩ := by
  apply ByteArray.ext
  simp
theorem str_app (a b : List UInt8) : Value.string ((⟨a.toArray⟩ : ByteArray) ++ ⟨b.toArray⟩) = .string ⟨(a ++ b).toArray⟩ := by rw [app_str]
theorem ret_val {a b : Value} (h : a = b) : Ending.returned a = .returned b := by rw [h]
end Wd

set_option maxHeartbeats 400000 in
theorem rput_any (l : List UInt8) (n k : Nat) (s : Int) (w : World) (hl : l.length ≤ 140737488355328) (hn : n < 18446744073709551616) (hk : k ≤ 8) (hs : (k : Int) ≤ max s 0) (hs2 : k < 8 → s ≤ k) :
    Calls Try.prog 85 #[.string ⟨l.toArray⟩, .int .u64 (n : Int), .int .i64 s] w fun e w' => e = .returned (.string ⟨(l ++ Wd.putL n k).toArray⟩) ∧ Below w.heap.size w w' := by
  go_enter Try.func85, Try.ntmps85
  go_wp2
  go_loopw [1, 7, 8] (fun m d i wr => ∃ j v : Nat, ∃ dl : List UInt8, j ≤ k ∧ i = .int .i64 j ∧ m = .int .u64 (v : Int) ∧ Hid (v = n / 256 ^ j) ∧ d = .string ⟨dl.toArray⟩ ∧ Hid (dl = Wd.putL n j) ∧ Below w.heap.size w wr) (fun _ _ i _ => k - (intOf i).toNat)
  case atStart => exact ⟨0, n, [], by omega, rfl, rfl, show n = _ by simp, rfl, show [] = _ by rfl, Below.refl _ _⟩
  case round =>
    obtain ⟨j, v, dl, hj, rfl, rfl, HV, rfl, HD, hb⟩ := hrel
    have hdl : dl.length ≤ 8 := by rw [HD.out, Wd.length_putL]; omega
    have hv : v < 18446744073709551616 := by rw [HV.out]; exact Nat.lt_of_le_of_lt (Nat.div_le_self _ _) hn
    by_cases hlt : j < k
    · have h8 : (j : Int) < 8 := by omega
      have hjs : (j : Int) < s := by omega
      have hcv := Wd.conv1 wr ((v : Int) % 256) (UInt8.ofNat v) (by simp)
      have HV2 : Hid (v / 256 = n / 256 ^ (j + 1)) := show _ = _ by rw [HV.out, Nat.pow_succ, Nat.div_div_eq_div_mul]
      have HD2 : Hid (UInt8.ofNat v :: dl = Wd.putL n (j + 1)) := show _ = _ by rw [HV.out, HD.out]; rfl
      have hbn := hb.alloc hb.size (.cells #[.int .u8 ((v : Int) % 256)] 5)
      go_wp2
      go_roundw
      case rel => exact ⟨j + 1, v / 256, UInt8.ofNat v :: dl, by omega, by go_num, Wd.val_int (by omega), HV2, Wd.str_app [UInt8.ofNat v] dl, HD2, hbn⟩
      case measure => simp [intOf]; omega
    · have HE : Hid (dl = Wd.putL n k) := show _ = _ by rw [HD.out, show j = k by omega]
      have h8 : ¬ ((j : Int) < s ∧ (j : Int) < 8) := by omega
      by_cases hjs : (j : Int) < s
      · have h9 : 8 ≤ (j : Int) := by omega
        go_wp2
        go_ret
        exact ⟨by rw [← HE.out]; exact Wd.ret_val (Wd.str_app l dl), hb⟩
      · go_wp2
        go_ret
        exact ⟨by rw [← HE.out]; exact Wd.ret_val (Wd.str_app l dl), hb⟩
theorem rput_all (l : List UInt8) (n : Nat) (s : Int) (w : World) (hl : l.length ≤ 140737488355328) (hn : n < 18446744073709551616) :
    Calls Try.prog 85 #[.string ⟨l.toArray⟩, .int .u64 (n : Int), .int .i64 s] w fun e w' => e = .returned (.string ⟨(l ++ Wd.putL n (Wd.clamp s)).toArray⟩) ∧ Below w.heap.size w w' := by
  have e := Wd.clamp_eq s
  exact rput_any l n (Wd.clamp s) s w hl hn (Wd.clamp_le s) (by omega) (by omega)
end Go.Proofs.Ytogkaoiiddhdbaa
