/- Contract of the document's Free. -/
import Derived.Test.YtlghiaocakokiaaFree
namespace Go.Proofs.Ytlghiaocakokiaa
open Go.RowKit
set_option linter.unusedVariables false

namespace Cd
/-- What stands ahead of place k: a blank ahead of the first. -/
def prev (s : ByteArray) (k : Nat) : Int := lst 32 ((bs s).take k)
theorem prev_succ (s : ByteArray) (k : Nat) (h : k < s.size) : prev s (k + 1) = bt s k := by unfold prev; rw [take_succ s k h, lst_last]
theorem free_void {s : ByteArray} (h : s.size = 0) : free (bs s) = false := by
  have e : bs s = [] := List.eq_nil_of_length_eq_zero (by rw [length_bs]; exact h)
  rw [e]; rfl
theorem free_head {s : ByteArray} (h : 0 < s.size) (hc : (bt s 0 == 32) = true) : free (bs s) = false := by
  refine free_no (k := 1) ?_
  have h1 := (chn_step h (p := 32) rfl rfl).1
  rw [show (1 : Nat) = 0 + 1 from rfl, h1, ok, hc]
  simp
theorem free_tail {s : ByteArray} (h : 0 < s.size) (hc : (bt s (s.size - 1) == 32) = true) : free (bs s) = false := by
  have e : lst 32 (bs s) = bt s (s.size - 1) := by
    have := prev_succ s (s.size - 1) (by omega)
    unfold prev at this
    rwa [show s.size - 1 + 1 = s.size by omega, take_all] at this
  unfold free
  rw [e]
  simp only [bne, hc]
  simp
theorem free_yes {s : ByteArray} (h0 : 0 < s.size) (h : s.size ≤ 40) (hc : chn 32 (bs s) = true) (hl : (bt s (s.size - 1) == 32) = false) : free (bs s) = true := by
  have e : lst 32 (bs s) = bt s (s.size - 1) := by
    have := prev_succ s (s.size - 1) (by omega)
    unfold prev at this
    rwa [show s.size - 1 + 1 = s.size by omega, take_all] at this
  rw [free_end h hc e]
  simp only [bne, hl]
  rfl
end Cd

theorem rfree_void (s : ByteArray) (w : World) (h : s.size = 0) :
    Calls Try.prog 20 #[.string s] w fun e w' => e = .returned (.bool (Cd.free (Cd.bs s))) ∧ w = w' := by
  have HN := Lib.hid (Cd.free_void h)
  have h1 : s.size < 1 := by omega
  clear h
  go_enter Try.func20, Try.ntmps20
  go_wp2
  go_ret
  exact ⟨Cd.ret_bool HN.out.symm, rfl⟩
theorem rfree_many (s : ByteArray) (w : World) (hs : s.size ≤ 140737488355328) (h : 40 < s.size) :
    Calls Try.prog 20 #[.string s] w fun e w' => e = .returned (.bool (Cd.free (Cd.bs s))) ∧ w = w' := by
  have HN := Lib.hid (Cd.free_long h)
  go_enter Try.func20, Try.ntmps20
  go_wp2
  go_ret
  exact ⟨Cd.ret_bool HN.out.symm, rfl⟩
theorem rfree_head (s : ByteArray) (w : World) (h0 : 0 < s.size) (hs : s.size ≤ 40) (hc : (Cd.bt s 0 == 32) = true) :
    Calls Try.prog 20 #[.string s] w fun e w' => e = .returned (.bool (Cd.free (Cd.bs s))) ∧ w = w' := by
  have hb := Cd.get_bt s
  have HN := Lib.hid (Cd.free_head h0 hc)
  go_enter Try.func20, Try.ntmps20
  go_wp2
  go_ret
  exact ⟨Cd.ret_bool HN.out.symm, rfl⟩
theorem rfree_tail (s : ByteArray) (w : World) (h0 : 0 < s.size) (hs : s.size ≤ 40) (hc : (Cd.bt s 0 == 32) = false) (n : Nat) (hn : s.size = n + 1) (hl : (Cd.bt s n == 32) = true) :
    Calls Try.prog 20 #[.string s] w fun e w' => e = .returned (.bool (Cd.free (Cd.bs s))) ∧ w = w' := by
  have hb := Cd.get_bt s
  have HN := Lib.hid (Cd.free_tail h0 (by rw [hn]; exact hl))
  have e1 : ((s.size : Int) - 1).toNat = n := by omega
  have e2 : n < s.size := by omega
  clear hn
  go_enter Try.func20, Try.ntmps20
  go_wp2
  go_ret
  exact ⟨Cd.ret_bool HN.out.symm, rfl⟩

namespace Cd
theorem isF_ways (c : Int) : (isL c = true ∧ (c == 32) = false ∧ isF c = true) ∨ (isL c = false ∧ isD c = true ∧ (c == 32) = false ∧ isF c = true)
    ∨ (isL c = false ∧ isD c = false ∧ (c == 32) = true ∧ isF c = true)
    ∨ (isL c = false ∧ isD c = false ∧ (c == 32) = false ∧ (c == 46) = true ∧ isF c = true)
    ∨ (isL c = false ∧ isD c = false ∧ (c == 32) = false ∧ (c == 46) = false ∧ (c == 45) = true ∧ isF c = true)
    ∨ (isL c = false ∧ isD c = false ∧ (c == 32) = false ∧ (c == 46) = false ∧ (c == 45) = false ∧ (c == 47) = true ∧ isF c = true)
    ∨ (isL c = false ∧ isD c = false ∧ (c == 32) = false ∧ (c == 46) = false ∧ (c == 45) = false ∧ (c == 47) = false ∧ isF c = false) := by
  cases h32 : (c == 32) with
  | true => rw [beq_iff_eq] at h32; subst h32; right; right; left; decide
  | false =>
    cases hL : isL c with
    | true => left; simp [isF, hL]
    | false =>
      cases hD : isD c with
      | true => right; left; simp [isF, hD]
      | false =>
        right; right; right
        cases h46 : (c == 46) with
        | true => left; simp [isF, h46]
        | false =>
          right
          cases h45 : (c == 45) with
          | true => left; simp [isF, h45]
          | false =>
            right
            cases h47 : (c == 47) with
            | true => left; simp [isF, h47]
            | false => right; simp only [isF, hL, hD, h32, h46, h45, h47]; simp
theorem ne_of {c d : Int} {β : Bool} (h : (c == d) = β) : (c != d) = !β := by rw [bne, h]
end Cd

set_option maxRecDepth 100000 in
set_option maxHeartbeats 1000000 in
theorem rfree_go (s : ByteArray) (w : World) (h0 : 0 < s.size) (hs : s.size ≤ 40) (hc : (Cd.bt s 0 == 32) = false) (n : Nat) (hn : s.size = n + 1) (hl : (Cd.bt s n == 32) = false) :
    Calls Try.prog 20 #[.string s] w fun e w' => e = .returned (.bool (Cd.free (Cd.bs s))) ∧ w = w' := by
  have hb := Cd.get_bt s
  have HE : Hid (Cd.chn 32 (Cd.bs s) = true → Cd.free (Cd.bs s) = true) := fun h => Cd.free_yes h0 hs h (by rw [hn]; exact hl)
  have e1 : ((s.size : Int) - 1).toNat = n := by omega
  have e2 : n < s.size := by omega
  clear hn
  go_enter Try.func20, Try.ntmps20
  go_wp2
  go_loop [3] (fun i => ∃ (k : Nat), k ≤ s.size ∧ i = .int .i64 k ∧ Hid (Cd.chn 32 ((Cd.bs s).take k) = true)) (fun i => s.size - (intOf i).toNat)
  case atStart => exact ⟨0, by omega, rfl, show _ = _ by simp [Cd.chn]⟩
  case round =>
    obtain ⟨k, hk, rfl, HK⟩ := hrel
    clear e1 e2 hl
    by_cases hlt : k < s.size
    · have h1 := (Cd.chn_step hlt HK.out (p := Cd.prev s k) rfl).1
      rcases Cd.isF_ways (Cd.bt s k) with ⟨hL, h32, hF⟩ | ⟨hL, hD, h32, hF⟩ | ⟨hL, hD, h32, hF⟩ | ⟨hL, hD, h32, h46, hF⟩ | ⟨hL, hD, h32, h46, h45, hF⟩ | ⟨hL, hD, h32, h46, h45, h47, hF⟩ | ⟨hL, hD, h32, h46, h45, h47, hF⟩
      · have n32 := Cd.ne_of h32
        rw [Cd.ok, hF, h32] at h1
        have HC := Lib.hid h1
        clear h1
        go_wp2_with (first
          | (go_at_call 30; refine (rletter_any _ _).mono ?_; rintro e w' ⟨rfl, rfl⟩)
          | (go_at_call 32; refine (rdigit_any _ _).mono ?_; rintro e w' ⟨rfl, rfl⟩))
        go_round
        case rel => exact ⟨k + 1, by omega, by go_num, HC⟩
        case measure => simp [intOf]; omega
      · have n32 := Cd.ne_of h32
        rw [Cd.ok, hF, h32] at h1
        have HC := Lib.hid h1
        clear h1
        go_wp2_with (first
          | (go_at_call 30; refine (rletter_any _ _).mono ?_; rintro e w' ⟨rfl, rfl⟩)
          | (go_at_call 32; refine (rdigit_any _ _).mono ?_; rintro e w' ⟨rfl, rfl⟩))
        go_round
        case rel => exact ⟨k + 1, by omega, by go_num, HC⟩
        case measure => simp [intOf]; omega
      · have n32 := Cd.ne_of h32
        have hk1 : 1 ≤ k := by
          rcases Nat.eq_zero_or_pos k with h | h
          · subst h; rw [h32] at hc; cases hc
          · exact h
        have e1 : ((k : Int) - 1).toNat = k - 1 := by omega
        have e2 : k - 1 < s.size := by omega
        have ep : Cd.prev s k = Cd.bt s (k - 1) := by
          have := Cd.prev_succ s (k - 1) e2
          rwa [show k - 1 + 1 = k by omega] at this
        rw [ep] at h1
        clear ep
        cases hp : (Cd.bt s (k - 1) == 32) with
        | false =>
          rw [Cd.ok, hF, h32, hp] at h1
          have HC := Lib.hid h1
          clear h1
          go_wp2_with (first
            | (go_at_call 30; refine (rletter_any _ _).mono ?_; rintro e w' ⟨rfl, rfl⟩)
            | (go_at_call 32; refine (rdigit_any _ _).mono ?_; rintro e w' ⟨rfl, rfl⟩))
          go_round
          case rel => exact ⟨k + 1, by omega, by go_num, HC⟩
          case measure => simp [intOf]; omega
        | true =>
          rw [Cd.ok, hF, h32, hp] at h1
          have HN := Lib.hid (Cd.free_no h1)
          clear h1
          go_wp2_with (first
            | (go_at_call 30; refine (rletter_any _ _).mono ?_; rintro e w' ⟨rfl, rfl⟩)
            | (go_at_call 32; refine (rdigit_any _ _).mono ?_; rintro e w' ⟨rfl, rfl⟩))
          go_ret
          exact ⟨Cd.ret_bool HN.out.symm, rfl⟩
      · have n32 := Cd.ne_of h32; have n46 := Cd.ne_of h46
        rw [Cd.ok, hF, h32] at h1
        have HC := Lib.hid h1
        clear h1
        go_wp2_with (first
          | (go_at_call 30; refine (rletter_any _ _).mono ?_; rintro e w' ⟨rfl, rfl⟩)
          | (go_at_call 32; refine (rdigit_any _ _).mono ?_; rintro e w' ⟨rfl, rfl⟩))
        go_round
        case rel => exact ⟨k + 1, by omega, by go_num, HC⟩
        case measure => simp [intOf]; omega
      · have n32 := Cd.ne_of h32; have n46 := Cd.ne_of h46; have n45 := Cd.ne_of h45
        rw [Cd.ok, hF, h32] at h1
        have HC := Lib.hid h1
        clear h1
        go_wp2_with (first
          | (go_at_call 30; refine (rletter_any _ _).mono ?_; rintro e w' ⟨rfl, rfl⟩)
          | (go_at_call 32; refine (rdigit_any _ _).mono ?_; rintro e w' ⟨rfl, rfl⟩))
        go_round
        case rel => exact ⟨k + 1, by omega, by go_num, HC⟩
        case measure => simp [intOf]; omega
      · have n32 := Cd.ne_of h32; have n46 := Cd.ne_of h46; have n45 := Cd.ne_of h45; have n47 := Cd.ne_of h47
        rw [Cd.ok, hF, h32] at h1
        have HC := Lib.hid h1
        clear h1
        go_wp2_with (first
          | (go_at_call 30; refine (rletter_any _ _).mono ?_; rintro e w' ⟨rfl, rfl⟩)
          | (go_at_call 32; refine (rdigit_any _ _).mono ?_; rintro e w' ⟨rfl, rfl⟩))
        go_round
        case rel => exact ⟨k + 1, by omega, by go_num, HC⟩
        case measure => simp [intOf]; omega
      · have n32 := Cd.ne_of h32; have n46 := Cd.ne_of h46; have n45 := Cd.ne_of h45; have n47 := Cd.ne_of h47
        rw [Cd.ok, hF, h32] at h1
        have HN := Lib.hid (Cd.free_no h1)
        clear h1
        go_wp2_with (first
          | (go_at_call 30; refine (rletter_any _ _).mono ?_; rintro e w' ⟨rfl, rfl⟩)
          | (go_at_call 32; refine (rdigit_any _ _).mono ?_; rintro e w' ⟨rfl, rfl⟩))
        go_ret
        exact ⟨Cd.ret_bool HN.out.symm, rfl⟩
    · have h1 := HK.out
      rw [show k = s.size by omega, Cd.take_all] at h1
      have HN := Lib.hid (HE.out h1)
      clear h1
      go_wp2
      go_ret
      exact ⟨Cd.ret_bool HN.out.symm, rfl⟩
theorem rfree_any (s : ByteArray) (w : World) (hs : s.size ≤ 140737488355328) :
    Calls Try.prog 20 #[.string s] w fun e w' => e = .returned (.bool (Cd.free (Cd.bs s))) ∧ w = w' := by
  rcases Nat.eq_zero_or_pos s.size with h0 | h0
  · exact rfree_void s w h0
  rcases Nat.lt_or_ge 40 s.size with h | h
  · exact rfree_many s w hs h
  cases hc : (Cd.bt s 0 == 32) with
  | true => exact rfree_head s w h0 h hc
  | false =>
    cases hl : (Cd.bt s (s.size - 1) == 32) with
    | true => exact rfree_tail s w h0 h hc (s.size - 1) (by omega) hl
    | false => exact rfree_go s w h0 h hc (s.size - 1) (by omega) hl
end Go.Proofs.Ytlghiaocakokiaa
