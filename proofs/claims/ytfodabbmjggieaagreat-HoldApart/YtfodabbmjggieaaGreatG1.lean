/- Contracts of the code and of the document that the walks lean on, part G1. -/
import Derived.WalkArith
import Derived.Test.YtfodabbmjggieaaGreatRows
import Derived.WalkKit
import Derived.ProofKit
import Derived.OpenShut
import Derived.ShutString
import Derived.ChangeOld
import Derived.Below
import Derived.Lib.Hide
import Derived.OwnWalk
import Derived.Deep.MidRow
import Derived.Deep.QuietTactic
import Derived.BigQuiet
import Derived.DeepKeys4
import Derived.MapKept
import Derived.Laws.CopyOwn
import Derived.Laws.Tables
import Derived.Maps.AppendAt
import Derived.Laws.ResultCell
namespace Go.Proofs.YtfodabbmjggieaaGreat
open Go.RowKit Go.WideMaps
theorem laidOut : laidOutB Tryz.prog = true := by kernel_rfl
end Go.Proofs.YtfodabbmjggieaaGreat
namespace Go.Proofs.YtfodabbmjggieaaGreat
open Go.RowKit

namespace Cd
/-- The bytes of a text as numbers. -/
def bs (s : ByteArray) : List Int := s.data.toList.map fun b => (b.toNat : Int)
/-- Byte k of a text; 0 behind its end. -/
def bt (s : ByteArray) (k : Nat) : Int := (bs s).getD k 0
def isL (c : Int) : Bool := decide (65 ≤ c) && decide (c ≤ 90)
def isD (c : Int) : Bool := decide (48 ≤ c) && decide (c ≤ 57)
def isM (c : Int) : Bool := isL c || isD c
def isF (c : Int) : Bool := isL c || isD c || c == 32 || c == 46 || c == 45 || c == 47

theorem length_bs (s : ByteArray) : (bs s).length = s.size := by simp [bs]
theorem get_bt (s : ByteArray) : ∀ (n : Nat) (h : n < s.size), ((s[n]'h).toNat : Int) = bt s n := fun n h => by
  have hl : n < (bs s).length := by rw [length_bs]; exact h
  unfold bt
  rw [List.getD_eq_getElem?_getD, List.getElem?_eq_getElem hl]
  simp [bs]
  rfl
theorem mem_bs {s : ByteArray} {c : Int} (h : c ∈ bs s) : 0 ≤ c ∧ c ≤ 255 := by
  obtain ⟨b, _, rfl⟩ := List.mem_map.1 h
  have := b.toNat_lt
  omega
theorem bt_mem (s : ByteArray) (k : Nat) (h : k < s.size) : bt s k ∈ bs s := by
  have hl : k < (bs s).length := by rw [length_bs]; exact h
  unfold bt
  rw [List.getD_eq_getElem?_getD, List.getElem?_eq_getElem hl]
  exact List.getElem_mem hl
theorem bt_lo (s : ByteArray) (k : Nat) : 0 ≤ bt s k := by
  rcases Nat.lt_or_ge k s.size with h | h
  · exact (mem_bs (bt_mem s k h)).1
  · unfold bt; rw [List.getD_eq_getElem?_getD, List.getElem?_eq_none (by rw [length_bs]; exact h)]; simp
theorem bt_hi (s : ByteArray) (k : Nat) : bt s k ≤ 255 := by
  rcases Nat.lt_or_ge k s.size with h | h
  · exact (mem_bs (bt_mem s k h)).2
  · unfold bt; rw [List.getD_eq_getElem?_getD, List.getElem?_eq_none (by rw [length_bs]; exact h)]; simp
theorem take_succ (s : ByteArray) (k : Nat) (h : k < s.size) : (bs s).take (k + 1) = (bs s).take k ++ [bt s k] := by
  have hl : k < (bs s).length := by rw [length_bs]; exact h
  rw [List.take_succ_eq_append_getElem hl]
  unfold bt
  rw [List.getD_eq_getElem?_getD, List.getElem?_eq_getElem hl]
  rfl
theorem take_all (s : ByteArray) : (bs s).take s.size = bs s := by rw [← length_bs]; exact List.take_length
theorem all_no {s : ByteArray} {k : Nat} {p : Int → Bool} (h : k < s.size) (hp : p (bt s k) = false) : (bs s).all p = false := by
  cases e : (bs s).all p with
  | false => rfl
  | true => rw [List.all_eq_true] at e; rw [e _ (bt_mem s k h)] at hp; cases hp
theorem all_step {s : ByteArray} {k : Nat} {p : Int → Bool} (h : k < s.size) (hp : p (bt s k) = true) (hk : ((bs s).take k).all p = true) : ((bs s).take (k + 1)).all p = true := by
  rw [take_succ s k h, List.all_append, hk]; simp [hp]
end Cd

theorem letter_any (c : Int) (w : World) : Calls Tryz.prog 125 #[.int .u8 c] w fun e w' => e = .returned (.bool (Cd.isL c)) ∧ w = w' := by
  go_enter Tryz.func125, Tryz.ntmps125
  go_wp2
  all_goals go_ret
  all_goals exact ⟨by simp [Cd.isL, *] <;> omega, rfl⟩
theorem rletter_any (c : Int) (w : World) : Calls Tryz.prog 86 #[.int .u8 c] w fun e w' => e = .returned (.bool (Cd.isL c)) ∧ w = w' := by
  go_enter Tryz.func86, Tryz.ntmps86
  go_wp2
  all_goals go_ret
  all_goals exact ⟨by simp [Cd.isL, *] <;> omega, rfl⟩
theorem digit_any (c : Int) (w : World) : Calls Tryz.prog 139 #[.int .u8 c] w fun e w' => e = .returned (.bool (Cd.isD c)) ∧ w = w' := by
  go_enter Tryz.func139, Tryz.ntmps139
  go_wp2
  all_goals go_ret
  all_goals exact ⟨by simp [Cd.isD, *] <;> omega, rfl⟩
theorem rdigit_any (c : Int) (w : World) : Calls Tryz.prog 117 #[.int .u8 c] w fun e w' => e = .returned (.bool (Cd.isD c)) ∧ w = w' := by
  go_enter Tryz.func117, Tryz.ntmps117
  go_wp2
  all_goals go_ret
  all_goals exact ⟨by simp [Cd.isD, *] <;> omega, rfl⟩
theorem class_any (c : Int) (w : World) : Calls Tryz.prog 96 #[.int .u8 c] w fun e w' => e = .returned (.bool (Cd.isL c)) ∧ w = w' := by
  go_enter Tryz.func96, Tryz.ntmps96
  go_wp2_with (go_at_call 125; refine (letter_any _ _).mono ?_; rintro e w' ⟨rfl, rfl⟩)
  go_ret
  exact ⟨rfl, rfl⟩
theorem rclass_any (c : Int) (w : World) : Calls Tryz.prog 66 #[.int .u8 c] w fun e w' => e = .returned (.bool (Cd.isL c)) ∧ w = w' := by
  go_enter Tryz.func66, Tryz.ntmps66
  go_wp2_with (go_at_call 86; refine (rletter_any _ _).mono ?_; rintro e w' ⟨rfl, rfl⟩)
  go_ret
  exact ⟨rfl, rfl⟩
end Go.Proofs.YtfodabbmjggieaaGreat
namespace Go.Proofs.YtfodabbmjggieaaGreat
open Go.RowKit
set_option linter.unusedVariables false

namespace Cd
def cnt (l : List Int) : Nat := l.countP isL
theorem cnt_step {s : ByteArray} {k : Nat} (h : k < s.size) : cnt ((bs s).take (k + 1)) = cnt ((bs s).take k) + (if isL (bt s k) then 1 else 0) := by
  unfold cnt
  rw [take_succ s k h, List.countP_append]
  simp [List.countP_cons]
theorem cnt_le (s : ByteArray) (k : Nat) : cnt ((bs s).take k) ≤ k := by
  unfold cnt
  exact Nat.le_trans List.countP_le_length (by rw [List.length_take]; omega)
theorem ret_bool {a b : Bool} (h : a = b) : Ending.returned (.bool a) = .returned (.bool b) := by rw [h]
end Cd

theorem letters_any (s : ByteArray) (w : World) (hs : s.size ≤ 9223372036854775807) :
    Calls Tryz.prog 126 #[.string s] w fun e w' => e = .returned (.bool ((Cd.bs s).all Cd.isL)) ∧ w = w' := by
  have hb := Cd.get_bt s
  go_enter Tryz.func126, Tryz.ntmps126
  go_wp2
  go_loop [6] (fun i => ∃ k : Nat, k ≤ s.size ∧ i = .int .i64 k ∧ Hid (((Cd.bs s).take k).all Cd.isL = true)) (fun i => s.size - (intOf i).toNat)
  case atStart => exact ⟨0, by omega, rfl, show _ = _ by simp⟩
  case round =>
    obtain ⟨k, hk, rfl, HK⟩ := hrel
    by_cases hlt : k < s.size
    · cases hL : Cd.isL (Cd.bt s k) with
      | true =>
        have HN := Lib.hid (Cd.all_step hlt hL HK.out)
        go_wp2_with (go_at_call 125; refine (letter_any _ _).mono ?_; rintro e w' ⟨rfl, rfl⟩)
        go_round
        case rel => exact ⟨k + 1, by omega, by go_num, HN⟩
        case measure => simp [intOf]; omega
      | false =>
        have HN := Lib.hid (Cd.all_no hlt hL)
        go_wp2_with (go_at_call 125; refine (letter_any _ _).mono ?_; rintro e w' ⟨rfl, rfl⟩)
        go_ret
        exact ⟨Cd.ret_bool HN.out.symm, rfl⟩
    · have h0 := HK.out
      rw [show k = s.size by omega, Cd.take_all] at h0
      have HN := Lib.hid h0
      clear h0
      go_wp2
      go_ret
      exact ⟨Cd.ret_bool HN.out.symm, rfl⟩

theorem lad_any (s : ByteArray) (w : World) (hs : s.size ≤ 9223372036854775807) :
    Calls Tryz.prog 124 #[.string s] w fun e w' => e = .returned (.bool ((Cd.bs s).all Cd.isM)) ∧ w = w' := by
  have hb := Cd.get_bt s
  go_enter Tryz.func124, Tryz.ntmps124
  go_wp2
  go_loop [6] (fun i => ∃ k : Nat, k ≤ s.size ∧ i = .int .i64 k ∧ Hid (((Cd.bs s).take k).all Cd.isM = true)) (fun i => s.size - (intOf i).toNat)
  case atStart => exact ⟨0, by omega, rfl, show _ = _ by simp⟩
  case round =>
    obtain ⟨k, hk, rfl, HK⟩ := hrel
    by_cases hlt : k < s.size
    · cases hL : Cd.isL (Cd.bt s k) with
      | true =>
        have HN := Lib.hid (Cd.all_step (p := Cd.isM) hlt (by simp [Cd.isM, hL]) HK.out)
        go_wp2_with (first
          | (go_at_call 125; refine (letter_any _ _).mono ?_; rintro e w' ⟨rfl, rfl⟩)
          | (go_at_call 139; refine (digit_any _ _).mono ?_; rintro e w' ⟨rfl, rfl⟩))
        go_round
        case rel => exact ⟨k + 1, by omega, by go_num, HN⟩
        case measure => simp [intOf]; omega
      | false =>
        cases hD : Cd.isD (Cd.bt s k) with
        | true =>
          have HN := Lib.hid (Cd.all_step (p := Cd.isM) hlt (by simp [Cd.isM, hD]) HK.out)
          go_wp2_with (first
          | (go_at_call 125; refine (letter_any _ _).mono ?_; rintro e w' ⟨rfl, rfl⟩)
          | (go_at_call 139; refine (digit_any _ _).mono ?_; rintro e w' ⟨rfl, rfl⟩))
          go_round
          case rel => exact ⟨k + 1, by omega, by go_num, HN⟩
          case measure => simp [intOf]; omega
        | false =>
          have HN := Lib.hid (Cd.all_no (p := Cd.isM) hlt (by simp [Cd.isM, hL, hD]))
          go_wp2_with (first
          | (go_at_call 125; refine (letter_any _ _).mono ?_; rintro e w' ⟨rfl, rfl⟩)
          | (go_at_call 139; refine (digit_any _ _).mono ?_; rintro e w' ⟨rfl, rfl⟩))
          go_ret
          exact ⟨Cd.ret_bool HN.out.symm, rfl⟩
    · have h0 := HK.out
      rw [show k = s.size by omega, Cd.take_all] at h0
      have HN := Lib.hid h0
      clear h0
      go_wp2
      go_ret
      exact ⟨Cd.ret_bool HN.out.symm, rfl⟩

/-- Mixed within its bounds. -/
theorem mixed_in (s : ByteArray) (lo hi : Int) (w : World) (hs : s.size ≤ 9223372036854775807) (hlo : lo ≤ (s.size : Int)) (hhi : (s.size : Int) ≤ hi) :
    Calls Tryz.prog 84 #[.string s, .int .i64 lo, .int .i64 hi] w fun e w' => e = .returned (.bool ((Cd.bs s).all Cd.isM)) ∧ w = w' := by
  have hb := Cd.get_bt s
  have t1 : decide ((s.size : Int) < lo) = false := by simp; omega
  have t2 : decide (hi < (s.size : Int)) = false := by simp; omega
  go_enter Tryz.func84, Tryz.ntmps84
  go_wp2
  go_loop [7] (fun i => ∃ k : Nat, k ≤ s.size ∧ i = .int .i64 k ∧ Hid (((Cd.bs s).take k).all Cd.isM = true)) (fun i => s.size - (intOf i).toNat)
  case atStart => exact ⟨0, by omega, rfl, show _ = _ by simp⟩
  case round =>
    obtain ⟨k, hk, rfl, HK⟩ := hrel
    by_cases hlt : k < s.size
    · cases hL : Cd.isL (Cd.bt s k) with
      | true =>
        have HN := Lib.hid (Cd.all_step (p := Cd.isM) hlt (by simp [Cd.isM, hL]) HK.out)
        go_wp2_with (first
          | (go_at_call 86; refine (rletter_any _ _).mono ?_; rintro e w' ⟨rfl, rfl⟩)
          | (go_at_call 117; refine (rdigit_any _ _).mono ?_; rintro e w' ⟨rfl, rfl⟩))
        go_round
        case rel => exact ⟨k + 1, by omega, by go_num, HN⟩
        case measure => simp [intOf]; omega
      | false =>
        cases hD : Cd.isD (Cd.bt s k) with
        | true =>
          have HN := Lib.hid (Cd.all_step (p := Cd.isM) hlt (by simp [Cd.isM, hD]) HK.out)
          go_wp2_with (first
          | (go_at_call 86; refine (rletter_any _ _).mono ?_; rintro e w' ⟨rfl, rfl⟩)
          | (go_at_call 117; refine (rdigit_any _ _).mono ?_; rintro e w' ⟨rfl, rfl⟩))
          go_round
          case rel => exact ⟨k + 1, by omega, by go_num, HN⟩
          case measure => simp [intOf]; omega
        | false =>
          have HN := Lib.hid (Cd.all_no (p := Cd.isM) hlt (by simp [Cd.isM, hL, hD]))
          go_wp2_with (first
          | (go_at_call 86; refine (rletter_any _ _).mono ?_; rintro e w' ⟨rfl, rfl⟩)
          | (go_at_call 117; refine (rdigit_any _ _).mono ?_; rintro e w' ⟨rfl, rfl⟩))
          go_ret
          exact ⟨Cd.ret_bool HN.out.symm, rfl⟩
    · have h0 := HK.out
      rw [show k = s.size by omega, Cd.take_all] at h0
      have HN := Lib.hid h0
      clear h0
      go_wp2
      go_ret
      exact ⟨Cd.ret_bool HN.out.symm, rfl⟩

theorem mixed_few (s : ByteArray) (lo hi : Int) (w : World) (hs : s.size ≤ 9223372036854775807) (hlo : (s.size : Int) < lo) :
    Calls Tryz.prog 84 #[.string s, .int .i64 lo, .int .i64 hi] w fun e w' => e = .returned (.bool false) ∧ w = w' := by
  go_enter Tryz.func84, Tryz.ntmps84
  go_wp2
  go_ret
  exact ⟨rfl, rfl⟩
theorem mixed_many (s : ByteArray) (lo hi : Int) (w : World) (hs : s.size ≤ 9223372036854775807) (hlo : lo ≤ (s.size : Int)) (hhi : hi < (s.size : Int)) :
    Calls Tryz.prog 84 #[.string s, .int .i64 lo, .int .i64 hi] w fun e w' => e = .returned (.bool false) ∧ w = w' := by
  go_enter Tryz.func84, Tryz.ntmps84
  go_wp2
  go_ret
  exact ⟨rfl, rfl⟩
theorem mixed_any (s : ByteArray) (lo hi : Int) (w : World) (hs : s.size ≤ 9223372036854775807) :
    Calls Tryz.prog 84 #[.string s, .int .i64 lo, .int .i64 hi] w fun e w' => e = .returned (.bool (decide (lo ≤ (s.size : Int)) && decide ((s.size : Int) ≤ hi) && (Cd.bs s).all Cd.isM)) ∧ w = w' := by
  rcases Int.lt_or_le (s.size : Int) lo with h | h
  · refine (mixed_few s lo hi w hs h).mono ?_
    rintro e w' ⟨rfl, rfl⟩
    exact ⟨Cd.ret_bool (by rw [decide_eq_false (by omega)]; rfl), rfl⟩
  · rcases Int.lt_or_le hi (s.size : Int) with h2 | h2
    · refine (mixed_many s lo hi w hs h h2).mono ?_
      rintro e w' ⟨rfl, rfl⟩
      exact ⟨Cd.ret_bool (by rw [decide_eq_false (p := (s.size : Int) ≤ hi) (by omega)]; simp), rfl⟩
    · refine (mixed_in s lo hi w hs h h2).mono ?_
      rintro e w' ⟨rfl, rfl⟩
      exact ⟨Cd.ret_bool (by rw [decide_eq_true h, decide_eq_true h2]; rfl), rfl⟩

theorem rletters_any (s : ByteArray) (w : World) (hs : s.size ≤ 9223372036854775807) :
    Calls Tryz.prog 85 #[.string s] w fun e w' => e = .returned (.int .i64 (Cd.cnt (Cd.bs s) : Nat)) ∧ w = w' := by
  have hb := Cd.get_bt s
  go_enter Tryz.func85, Tryz.ntmps85
  go_wp2
  go_loop [3, 4] (fun n i => ∃ k m : Nat, k ≤ s.size ∧ m ≤ k ∧ i = .int .i64 k ∧ n = .int .i64 (m : Int) ∧ Hid (Cd.cnt ((Cd.bs s).take k) = m)) (fun _ i => s.size - (intOf i).toNat)
  case atStart => exact ⟨0, 0, by omega, by omega, rfl, rfl, show _ = _ by simp [Cd.cnt]⟩
  case round =>
    obtain ⟨k, m, hk, hm, rfl, rfl, HK⟩ := hrel
    by_cases hlt : k < s.size
    · have h1 := Cd.cnt_step hlt
      rw [HK.out] at h1
      cases hL : Cd.isL (Cd.bt s k) with
      | true =>
        rw [hL, if_pos rfl] at h1
        have HN := Lib.hid h1
        clear h1
        go_wp2_with (go_at_call 86; refine (rletter_any _ _).mono ?_; rintro e w' ⟨rfl, rfl⟩)
        go_round
        case rel => exact ⟨k + 1, m + 1, by omega, by omega, by go_num, by go_num, HN⟩
        case measure => simp [intOf]; omega
      | false =>
        rw [hL, if_neg (by decide)] at h1
        have HN := Lib.hid h1
        clear h1
        go_wp2_with (go_at_call 86; refine (rletter_any _ _).mono ?_; rintro e w' ⟨rfl, rfl⟩)
        go_round
        case rel => exact ⟨k + 1, m, by omega, by omega, by go_num, rfl, HN⟩
        case measure => simp [intOf]; omega
    · have h0 := HK.out
      rw [show k = s.size by omega, Cd.take_all] at h0
      have HN := Lib.hid h0
      clear h0
      go_wp2
      go_ret
      exact ⟨by rw [HN.out]; rfl, rfl⟩
end Go.Proofs.YtfodabbmjggieaaGreat
namespace Go.Proofs.YtfodabbmjggieaaGreat
open Go.RowKit
set_option linter.unusedVariables false

namespace Cd
def city (s : ByteArray) : Bool := decide (s.size = 3) && (bs s).all isL
def locator (s : ByteArray) : Bool := decide (s.size = 6) && (bs s).all isL
def person (s : ByteArray) : Bool := decide (0 < s.size) && decide (s.size ≤ 16) && (bs s).all isL
def carrier (s : ByteArray) : Bool := decide (s.size = 2) && (bs s).all isM && (bs s).any isL
def agent (s : ByteArray) : Bool := decide (2 ≤ s.size) && decide (s.size ≤ 6) && isL (bt s 0) && (bs s).all isM
theorem cnt_all (l : List Int) : (cnt l = l.length) ↔ l.all isL = true := by
  unfold cnt; rw [List.countP_eq_length, List.all_eq_true]
theorem cnt_eq (s : ByteArray) (n : Int) (h : (s.size : Int) = n) : (((cnt (bs s) : Nat) : Int) == n) = (bs s).all isL := by
  have := cnt_all (bs s)
  rw [length_bs] at this
  cases e : (bs s).all isL with
  | true => rw [beq_iff_eq]; have := this.2 e; omega
  | false =>
    rw [beq_eq_false_iff_ne]
    intro h2
    have h3 := this.1 (by omega)
    rw [e] at h3
    cases h3
theorem cnt_pos (l : List Int) : decide (0 < ((cnt l : Nat) : Int)) = l.any isL := by
  unfold cnt
  have h : 0 < l.countP isL ↔ l.any isL = true := by rw [List.countP_pos_iff, List.any_eq_true]
  cases e : l.any isL with
  | true => have := h.2 e; rw [decide_eq_true]; omega
  | false =>
    rw [decide_eq_false]
    intro h2
    have h3 := h.1 (by omega)
    rw [e] at h3
    cases h3
theorem two (s : ByteArray) (h : s.size = 2) : bs s = [bt s 0, bt s 1] := by
  have h0 := take_succ s 0 (by omega)
  have h1 := take_succ s 1 (by omega)
  rw [h0] at h1
  have := take_all s
  rw [h, h1] at this
  rw [← this]
  rfl
theorem all_L_M {l : List Int} (h : l.all isL = true) : l.all isM = true := by
  rw [List.all_eq_true] at *
  intro c hc
  simp [isM, h c hc]
end Cd

theorem city_any (s : ByteArray) (w : World) (hs : s.size ≤ 9223372036854775807) :
    Calls Tryz.prog 94 #[.string s] w fun e w' => e = .returned (.bool (Cd.city s)) ∧ w = w' := by
  by_cases h : s.size = 3
  · have t1 : ((s.size : Int) == 3) = true := beq_iff_eq.2 (by omega)
    have hs2 : s.size ≤ 9223372036854775807 := by omega
    have HN : Hid (Cd.city s = (Cd.bs s).all Cd.isL) := show _ = _ by rw [Cd.city, decide_eq_true h]; rfl
    clear h
    go_enter Tryz.func94, Tryz.ntmps94
    go_wp2_with (go_at_call 126; refine (letters_any _ _ hs2).mono ?_; rintro e w' ⟨rfl, rfl⟩)
    go_ret
    exact ⟨Cd.ret_bool HN.out.symm, rfl⟩
  · have t1 : ((s.size : Int) == 3) = false := beq_eq_false_iff_ne.2 (by omega)
    have HN : Hid (Cd.city s = false) := show _ = _ by rw [Cd.city, decide_eq_false h]; rfl
    clear h
    go_enter Tryz.func94, Tryz.ntmps94
    go_wp2
    go_ret
    exact ⟨Cd.ret_bool HN.out.symm, rfl⟩
theorem rcity_any (s : ByteArray) (w : World) (hs : s.size ≤ 9223372036854775807) :
    Calls Tryz.prog 65 #[.string s] w fun e w' => e = .returned (.bool (Cd.city s)) ∧ w = w' := by
  by_cases h : s.size = 3
  · have t1 : ((s.size : Int) == 3) = true := beq_iff_eq.2 (by omega)
    have hs2 : s.size ≤ 9223372036854775807 := by omega
    have HN : Hid (Cd.city s = (((Cd.cnt (Cd.bs s) : Nat) : Int) == 3)) := show _ = _ by rw [Cd.city, decide_eq_true h, Cd.cnt_eq s 3 (by omega)]; rfl
    clear h
    go_enter Tryz.func65, Tryz.ntmps65
    go_wp2_with (go_at_call 85; refine (rletters_any _ _ hs2).mono ?_; rintro e w' ⟨rfl, rfl⟩)
    go_ret
    exact ⟨Cd.ret_bool HN.out.symm, rfl⟩
  · have t1 : ((s.size : Int) == 3) = false := beq_eq_false_iff_ne.2 (by omega)
    have HN : Hid (Cd.city s = false) := show _ = _ by rw [Cd.city, decide_eq_false h]; rfl
    clear h
    go_enter Tryz.func65, Tryz.ntmps65
    go_wp2
    go_ret
    exact ⟨Cd.ret_bool HN.out.symm, rfl⟩
end Go.Proofs.YtfodabbmjggieaaGreat
namespace Go.Proofs.YtfodabbmjggieaaGreat
open Go.RowKit
set_option linter.unusedVariables false

theorem carrier_any (s : ByteArray) (w : World) (hs : s.size ≤ 9223372036854775807) :
    Calls Tryz.prog 93 #[.string s] w fun e w' => e = .returned (.bool (Cd.carrier s)) ∧ w = w' := by
  have hb := Cd.get_bt s
  by_cases h : s.size = 2
  · have t1 : ((s.size : Int) == 2) = true := beq_iff_eq.2 (by omega)
    have hl := lad_any s w hs
    have HE : Hid (Cd.carrier s = ((Cd.bs s).all Cd.isM && (Cd.isL (Cd.bt s 0) || Cd.isL (Cd.bt s 1)))) := show _ = _ by
      rw [Cd.carrier, decide_eq_true h, Cd.two s h]; simp
    have h0 : 0 < s.size := by omega
    have h1 : 1 < s.size := by omega
    clear h
    cases hM : (Cd.bs s).all Cd.isM with
    | false =>
      rw [hM] at hl
      have HL := Lib.hid hl
      have HN := Lib.hid (show Cd.carrier s = false by rw [HE.out, hM]; rfl)
      clear hl hM
      go_enter Tryz.func93, Tryz.ntmps93
      go_wp2_with (go_at_call 124; refine (HL.out).mono ?_; rintro e w' ⟨rfl, rfl⟩)
      go_ret
      exact ⟨Cd.ret_bool HN.out.symm, rfl⟩
    | true =>
      rw [hM] at hl
      have HL := Lib.hid hl
      cases h2 : Cd.isL (Cd.bt s 0) with
      | true =>
        have HN := Lib.hid (show Cd.carrier s = true by rw [HE.out, hM, h2]; rfl)
        clear hl hM
        go_enter Tryz.func93, Tryz.ntmps93
        go_wp2_with (first
          | (go_at_call 124; refine (HL.out).mono ?_; rintro e w' ⟨rfl, rfl⟩)
          | (go_at_call 125; refine (letter_any _ _).mono ?_; rintro e w' ⟨rfl, rfl⟩))
        go_ret
        exact ⟨Cd.ret_bool HN.out.symm, rfl⟩
      | false =>
        have HN := Lib.hid (show Cd.carrier s = Cd.isL (Cd.bt s 1) by rw [HE.out, hM, h2]; rfl)
        clear hl hM
        go_enter Tryz.func93, Tryz.ntmps93
        go_wp2_with (first
          | (go_at_call 124; refine (HL.out).mono ?_; rintro e w' ⟨rfl, rfl⟩)
          | (go_at_call 125; refine (letter_any _ _).mono ?_; rintro e w' ⟨rfl, rfl⟩))
        go_ret
        exact ⟨Cd.ret_bool HN.out.symm, rfl⟩
  · have t1 : ((s.size : Int) == 2) = false := beq_eq_false_iff_ne.2 (by omega)
    have HN : Hid (Cd.carrier s = false) := show _ = _ by rw [Cd.carrier, decide_eq_false h]; rfl
    clear h
    go_enter Tryz.func93, Tryz.ntmps93
    go_wp2
    go_ret
    exact ⟨Cd.ret_bool HN.out.symm, rfl⟩
theorem rcarrier_any (s : ByteArray) (w : World) (hs : s.size ≤ 9223372036854775807) :
    Calls Tryz.prog 63 #[.string s] w fun e w' => e = .returned (.bool (Cd.carrier s)) ∧ w = w' := by
  have hm := mixed_any s 2 2 w hs
  cases hx : (decide (2 ≤ (s.size : Int)) && decide ((s.size : Int) ≤ 2) && (Cd.bs s).all Cd.isM) with
  | true =>
    rw [hx] at hm
    have HM := Lib.hid hm
    have HN : Hid (Cd.carrier s = decide (0 < ((Cd.cnt (Cd.bs s) : Nat) : Int))) := show _ = _ by
      simp only [Bool.and_eq_true, decide_eq_true_eq] at hx
      rw [Cd.cnt_pos, Cd.carrier, decide_eq_true (p := s.size = 2) (by omega), hx.2]; rfl
    clear hm hx
    go_enter Tryz.func63, Tryz.ntmps63
    go_wp2_with (first
      | (go_at_call 84; refine (HM.out).mono ?_; rintro e w' ⟨rfl, rfl⟩)
      | (go_at_call 85; refine (rletters_any _ _ hs).mono ?_; rintro e w' ⟨rfl, rfl⟩))
    go_ret
    exact ⟨Cd.ret_bool (by rw [HN.out]; simp), rfl⟩
  | false =>
    rw [hx] at hm
    have HM := Lib.hid hm
    have HN : Hid (Cd.carrier s = false) := show _ = _ by
      cases e : Cd.carrier s with
      | false => rfl
      | true =>
        unfold Cd.carrier at e
        simp only [Bool.and_eq_true, decide_eq_true_eq] at e
        rw [decide_eq_true (p := 2 ≤ (s.size : Int)) (by omega), decide_eq_true (p := (s.size : Int) ≤ 2) (by omega), e.1.2] at hx
        cases hx
    clear hm hx
    go_enter Tryz.func63, Tryz.ntmps63
    go_wp2_with (go_at_call 84; refine (HM.out).mono ?_; rintro e w' ⟨rfl, rfl⟩)
    go_ret
    exact ⟨Cd.ret_bool HN.out.symm, rfl⟩
end Go.Proofs.YtfodabbmjggieaaGreat
namespace Go.Proofs.YtfodabbmjggieaaGreat
open Go.RowKit

namespace Dt
def isDay (d : Int) : Bool := decide (0 ≤ d) && decide (d < 366)
def isMin (d : Int) : Bool := decide (0 ≤ d) && decide (d < 1440)
end Dt

theorem isDay_any (d : Int) (w : World) : Calls Tryz.prog 133 #[.int .i64 d] w fun e w' => e = .returned (.bool (Dt.isDay d)) ∧ w = w' := by
  go_enter Tryz.func133, Tryz.ntmps133
  go_wp2
  all_goals go_ret
  all_goals exact ⟨by simp [Dt.isDay, *] <;> omega, rfl⟩
theorem isMin_any (d : Int) (w : World) : Calls Tryz.prog 140 #[.int .i64 d] w fun e w' => e = .returned (.bool (Dt.isMin d)) ∧ w = w' := by
  go_enter Tryz.func140, Tryz.ntmps140
  go_wp2
  all_goals go_ret
  all_goals exact ⟨by simp [Dt.isMin, *] <;> omega, rfl⟩
theorem isDay_yes (d : Int) (w : World) (h1 : 0 ≤ d) (h2 : d < 366) : Calls Tryz.prog 133 #[.int .i64 d] w fun e w' => e = .returned (.bool true) ∧ w = w' := by
  have := isDay_any d w
  rwa [show Dt.isDay d = true by simp [Dt.isDay, *]] at this
theorem isDay_no (d : Int) (w : World) (h : ¬ (0 ≤ d ∧ d < 366)) : Calls Tryz.prog 133 #[.int .i64 d] w fun e w' => e = .returned (.bool false) ∧ w = w' := by
  have := isDay_any d w
  rwa [show Dt.isDay d = false by simp [Dt.isDay]; omega] at this
theorem isMin_yes (d : Int) (w : World) (h1 : 0 ≤ d) (h2 : d < 1440) : Calls Tryz.prog 140 #[.int .i64 d] w fun e w' => e = .returned (.bool true) ∧ w = w' := by
  have := isMin_any d w
  rwa [show Dt.isMin d = true by simp [Dt.isMin, *]] at this
theorem isMin_no (d : Int) (w : World) (h : ¬ (0 ≤ d ∧ d < 1440)) : Calls Tryz.prog 140 #[.int .i64 d] w fun e w' => e = .returned (.bool false) ∧ w = w' := by
  have := isMin_any d w
  rwa [show Dt.isMin d = false by simp [Dt.isMin]; omega] at this

theorem weekday_yes (d : Int) (w : World) (h1 : 0 ≤ d) (h2 : d < 366) : Calls Tryz.prog 108 #[.int .i64 d] w fun e w' => e = .returned (.int .i64 (d % 7 + 1)) ∧ w = w' := by
  go_enter Tryz.func108, Tryz.ntmps108
  go_wp2_with (go_at_call 133; refine (isDay_yes _ _ h1 h2).mono ?_; rintro e w' ⟨rfl, rfl⟩)
  go_ret
  exact ⟨by go_num, rfl⟩
theorem weekday_no (d : Int) (w : World) (h : ¬ (0 ≤ d ∧ d < 366)) : Calls Tryz.prog 108 #[.int .i64 d] w fun e w' => e = .returned (.int .i64 0) ∧ w = w' := by
  have H := Lib.hid h
  clear h
  go_enter Tryz.func108, Tryz.ntmps108
  go_wp2_with (go_at_call 133; refine (isDay_no _ _ H.out).mono ?_; rintro e w' ⟨rfl, rfl⟩)
  go_ret
  exact ⟨rfl, rfl⟩
theorem rweekday_yes (d : Int) (w : World) (h1 : 0 ≤ d) (h2 : d < 366) : Calls Tryz.prog 79 #[.int .i64 d] w fun e w' => e = .returned (.int .i64 (d % 7 + 1)) ∧ w = w' := by
  go_enter Tryz.func79, Tryz.ntmps79
  go_wp2
  go_ret
  exact ⟨by go_num, rfl⟩
theorem rweekday_no (d : Int) (w : World) (h : ¬ (0 ≤ d ∧ d < 366)) : Calls Tryz.prog 79 #[.int .i64 d] w fun e w' => e = .returned (.int .i64 0) ∧ w = w' := by
  rcases (show d < 0 ∨ (0 ≤ d ∧ 366 ≤ d) by omega) with h | ⟨h1, h2⟩
  · go_enter Tryz.func79, Tryz.ntmps79
    go_wp2
    go_ret
    exact ⟨rfl, rfl⟩
  · clear h
    go_enter Tryz.func79, Tryz.ntmps79
    go_wp2
    go_ret
    exact ⟨rfl, rfl⟩
theorem join_yes (d m : Int) (w : World) (h1 : 0 ≤ d) (h2 : d < 366) (h3 : 0 ≤ m) (h4 : m < 1440) : Calls Tryz.prog 127 #[.int .i64 d, .int .i64 m] w fun e w' => e = .returned (.tuple #[.int .i64 (d * 1440 + m), .int .i64 0]) ∧ w = w' := by
  go_enter Tryz.func127, Tryz.ntmps127
  go_wp2_with (first
    | (go_at_call 133; refine (isDay_yes _ _ h1 h2).mono ?_; rintro e w' ⟨rfl, rfl⟩)
    | (go_at_call 140; refine (isMin_yes _ _ h3 h4).mono ?_; rintro e w' ⟨rfl, rfl⟩))
  go_ret2
  exact ⟨by go_num, rfl⟩
theorem join_no (d m : Int) (w : World) (h : ¬ (0 ≤ d ∧ d < 366 ∧ 0 ≤ m ∧ m < 1440)) : Calls Tryz.prog 127 #[.int .i64 d, .int .i64 m] w fun e w' => e = .returned (.tuple #[.int .i64 0, .int .i64 1]) ∧ w = w' := by
  by_cases hd : 0 ≤ d ∧ d < 366
  · obtain ⟨h1, h2⟩ := hd
    have H : Hid (¬ (0 ≤ m ∧ m < 1440)) := show ¬ _ by omega
    clear h
    go_enter Tryz.func127, Tryz.ntmps127
    go_wp2_with (first
      | (go_at_call 133; refine (isDay_yes _ _ h1 h2).mono ?_; rintro e w' ⟨rfl, rfl⟩)
      | (go_at_call 140; refine (isMin_no _ _ H.out).mono ?_; rintro e w' ⟨rfl, rfl⟩))
    go_ret2
    exact ⟨rfl, rfl⟩
  · have H := Lib.hid hd
    clear h hd
    go_enter Tryz.func127, Tryz.ntmps127
    go_wp2_with (go_at_call 133; refine (isDay_no _ _ H.out).mono ?_; rintro e w' ⟨rfl, rfl⟩)
    go_ret2
    exact ⟨rfl, rfl⟩
end Go.Proofs.YtfodabbmjggieaaGreat
namespace Go.Proofs.YtfodabbmjggieaaGreat
open Go.RowKit
set_option linter.unusedVariables false

namespace Fl
/-- A flight: its classes are letters with levels. -/
structure F where
  car : ByteArray
  num : Int
  frm : ByteArray
  to : ByteArray
  days : Int
  dep : Int
  arr : Int
  cls : List (Int × Int)
  plan : Int
instance : Inhabited F := ⟨⟨⟨#[]⟩, 0, ⟨#[]⟩, ⟨#[]⟩, 0, 0, 0, [], 0⟩⟩
/-- A flight in memory: where its classes lie. -/
structure R where
  f : F
  A : Option Addr
  cap : Nat
instance : Inhabited R := ⟨⟨default, none, 0⟩⟩
def enc (r : R) : List Value := [.string r.f.car, .int .i64 r.f.num, .string r.f.frm, .string r.f.to, .int .u8 r.f.days, .int .i64 r.f.dep, .int .i64 r.f.arr, .slice r.A r.f.cls.length r.cap, .int .i64 r.f.plan]
def fv (r : R) : Value := .agg #[.string r.f.car, .int .i64 r.f.num, .string r.f.frm, .string r.f.to, .int .u8 r.f.days, .int .i64 r.f.dep, .int .i64 r.f.arr, .slice r.A r.f.cls.length r.cap, .int .i64 r.f.plan]
theorem fv_enc (r : R) : Value.agg (enc r).toArray = fv r := rfl
theorem enc_len (r : R) : (enc r).length = 9 := rfl
theorem enc_one (r : R) : ∀ v ∈ enc r, v.oneCell' = true := by
  intro v hv
  simp only [enc, List.mem_cons, List.not_mem_nil, or_false] at hv
  rcases hv with rfl | rfl | rfl | rfl | rfl | rfl | rfl | rfl | rfl <;> rfl
/-- The slice at A holds the classes l. -/
def Cls (w : World) (B : Nat) (A : Option Addr) (l : List (Int × Int)) : Prop :=
  0 < l.length → ∃ b off, A = some ⟨b, off, none⟩ ∧ b < B ∧ ∀ j (hj : j < l.length), w.cell? ⟨b, off + j * 2, none⟩ = some (.int .u8 l[j].1) ∧ w.cell? ⟨b, off + j * 2 + 1, none⟩ = some (.int .i64 l[j].2)
theorem Cls.kept {w w' : World} {B : Nat} {A : Option Addr} {l : List (Int × Int)} (h : Cls w B A l) (hb : ∀ k, k < B → w'.heap[k]? = w.heap[k]?) : Cls w' B A l := fun hl => by
  obtain ⟨b, off, e, hB, hc⟩ := h hl
  exact ⟨b, off, e, hB, fun j hj => ⟨(World.cell?_of_block (w := w) (a := ⟨b, _, none⟩) (hb b hB)).trans (hc j hj).1, (World.cell?_of_block (w := w) (a := ⟨b, _, none⟩) (hb b hB)).trans (hc j hj).2⟩⟩
theorem Cls.below {w w' : World} {B B' : Nat} {A : Option Addr} {l : List (Int × Int)} (h : Cls w B A l) (hb : Below B' w w') (hB : B ≤ B') : Cls w' B A l := h.kept fun k hk => hb.block k (by omega)
theorem Cls.more {w : World} {B B' : Nat} {A : Option Addr} {l : List (Int × Int)} (h : Cls w B A l) (hB : B ≤ B') : Cls w B' A l := fun hl => by
  obtain ⟨b, off, e, hb, hc⟩ := h hl
  exact ⟨b, off, e, by omega, hc⟩
/-- What numbers and lengths a flight in memory may have. -/
structure Wf (r : R) : Prop where
  car : r.f.car.size ≤ 9223372036854775807
  frm : r.f.frm.size ≤ 9223372036854775807
  to : r.f.to.size ≤ 9223372036854775807
  n0 : -9223372036854775808 ≤ r.f.num
  n1 : r.f.num ≤ 9223372036854775807
  d0 : 0 ≤ r.f.days
  d1 : r.f.days ≤ 255
  p0 : -9223372036854775808 ≤ r.f.dep
  p1 : r.f.dep ≤ 9223372036854775807
  a0 : -9223372036854775808 ≤ r.f.arr
  a1 : r.f.arr ≤ 9223372036854775807
  l : r.f.cls.length ≤ 9223372036854775807
  lc : r.f.cls.length ≤ r.cap
  nc : r.A = none → r.cap = 0
  sp : ∀ a, r.A = some a → 0 < r.f.cls.length → a.spot = none
theorem below_drewN {B : Nat} {a w : World} (h : Below B a w) (n : Nat) : Below B a (w.drewN n) := ⟨h.os, h.tape, h.output, h.size, h.block⟩
theorem bcell {W w1 : World} (hb : Below W.heap.size W w1) : (∀ b o, b < W.heap.size → w1.cell? ⟨b, o, none⟩ = W.cell? ⟨b, o, none⟩) ∧ (∀ b o, b < W.heap.size → w1.frozen? ⟨b, o, none⟩ = W.frozen? ⟨b, o, none⟩) :=
  ⟨fun b o h => hb.cell (p := ⟨b, o, none⟩) h, fun b o h => hb.frozen (p := ⟨b, o, none⟩) h⟩
theorem str_ne {a b : ByteArray} (h : a ≠ b) : (a.toList == b.toList) = false := by
  rw [ByteArray.toList_eq, ByteArray.toList_eq]
  simp only [beq_eq_false_iff_ne]
  intro e
  apply h
  apply ByteArray.ext
  exact Array.toList_inj.1 e
theorem str_eq {a b : ByteArray} (h : a = b) : (a.toList == b.toList) = true := by subst h; exact beq_self_eq_true _
/-- Class k. -/
def lt (l : List (Int × Int)) (k : Nat) : Int := (l.getD k (0, 0)).1
def lv (l : List (Int × Int)) (k : Nat) : Int := (l.getD k (0, 0)).2
def cOk (l : List (Int × Int)) (k : Nat) : Bool := Cd.isL (lt l k) && decide (0 ≤ lv l k) && decide (lv l k ≤ 400) && (decide (k = 0) || decide (lt l (k - 1) < lt l k))
def clsOk (l : List (Int × Int)) : Bool := decide (1 ≤ l.length) && decide (l.length ≤ 6) && (List.range l.length).all (cOk l)
def keyOk (f : F) : Bool := Cd.carrier f.car && decide (1 ≤ f.num) && decide (f.num ≤ 9999)
def routeOk (f : F) : Bool := Cd.city f.frm && Cd.city f.to && decide (f.frm ≠ f.to)
def timesOk (f : F) : Bool := decide (1 ≤ f.days) && decide (f.days ≤ 127) && Dt.isMin f.dep && Dt.isMin f.arr
def planOk (f : F) : Bool := decide (0 ≤ f.plan) && decide (f.plan < 8)
def right (f : F) : Bool := keyOk f && routeOk f && timesOk f && clsOk f.cls && planOk f
theorem Cls.at {w : World} {B : Nat} {A : Option Addr} {l : List (Int × Int)} (h : Cls w B A l) (hl : 0 < l.length) : ∃ b off, A = some ⟨b, off, none⟩ ∧ b < B ∧ ∀ j, j < l.length → w.cell? ⟨b, off + j * 2, none⟩ = some (.int .u8 (lt l j)) ∧ w.cell? ⟨b, off + j * 2 + 1, none⟩ = some (.int .i64 (lv l j)) := by
  obtain ⟨b, off, e, hB, hc⟩ := h hl
  refine ⟨b, off, e, hB, fun j hj => ?_⟩
  have := hc j hj
  simp only [lt, lv, List.getD_eq_getElem?_getD, List.getElem?_eq_getElem hj, Option.getD_some]
  exact this
end Fl

theorem isMinute_any (n : Int) (w : World) : Calls Tryz.prog 95 #[.int .i64 n] w fun e w' => e = .returned (.bool (Dt.isMin n)) ∧ w = w' := by
  by_cases h : 0 ≤ n ∧ n < 1440
  · have HN : Hid (Dt.isMin n = true) := show _ = _ by simp [Dt.isMin, h]
    have HJ := Lib.hid (fun w => join_yes 0 n w (by decide) (by decide) h.1 h.2)
    clear h
    go_enter Tryz.func95, Tryz.ntmps95
    go_wp2_with (go_at_call 127; refine (HJ.out _).mono ?_; rintro e w' ⟨rfl, rfl⟩)
    go_ret
    exact ⟨Cd.ret_bool HN.out.symm, rfl⟩
  · have HN : Hid (Dt.isMin n = false) := show _ = _ by simp [Dt.isMin]; omega
    have HJ := Lib.hid (fun w => join_no 0 n w (by omega))
    clear h
    go_enter Tryz.func95, Tryz.ntmps95
    go_wp2_with (go_at_call 127; refine (HJ.out _).mono ?_; rintro e w' ⟨rfl, rfl⟩)
    go_ret
    exact ⟨Cd.ret_bool HN.out.symm, rfl⟩
theorem rightKey_any (f : Fl.F) (w : World) (hs : f.car.size ≤ 9223372036854775807) : Calls Tryz.prog 70 #[.agg #[.string f.car, .int .i64 f.num]] w fun e w' => e = .returned (.bool (Fl.keyOk f)) ∧ Below w.heap.size w w' := by
  have hc := Lib.hid (fun w => carrier_any f.car w hs)
  have HE : Hid (Fl.keyOk f = (Cd.carrier f.car && decide (1 ≤ f.num) && decide (f.num ≤ 9999))) := show _ = _ by rfl
  have hbe := (Below.refl w.heap.size w).alloc (Nat.le_refl _) (.cells #[.string f.car, .int .i64 f.num] 33)
  generalize Fl.keyOk f = r at *
  generalize Cd.carrier f.car = c at *
  cases c
  · go_enter Tryz.func70, Tryz.ntmps70
    go_wp2_with (go_at_call 93; refine (hc.out _).mono ?_; rintro e w' ⟨rfl, rfl⟩)
    go_ret
    exact ⟨Cd.ret_bool (by rw [HE.out]; rfl), hbe⟩
  · by_cases h1 : 1 ≤ f.num
    · go_enter Tryz.func70, Tryz.ntmps70
      go_wp2_with (go_at_call 93; refine (hc.out _).mono ?_; rintro e w' ⟨rfl, rfl⟩)
      go_ret
      exact ⟨Cd.ret_bool (by rw [HE.out]; simp [h1]), hbe⟩
    · go_enter Tryz.func70, Tryz.ntmps70
      go_wp2_with (go_at_call 93; refine (hc.out _).mono ?_; rintro e w' ⟨rfl, rfl⟩)
      go_ret
      exact ⟨Cd.ret_bool (by rw [HE.out, decide_eq_false (p := 1 ≤ f.num) (by omega)]; rfl), hbe⟩
end Go.Proofs.YtfodabbmjggieaaGreat
namespace Go.Proofs.YtfodabbmjggieaaGreat
open Go.RowKit
set_option linter.unusedVariables false

theorem rightRoute_any (r : Fl.R) (w : World) (h1 : r.f.frm.size ≤ 9223372036854775807) (h2 : r.f.to.size ≤ 9223372036854775807) : Calls Tryz.prog 71 #[Fl.fv r] w fun e w' => e = .returned (.bool (Fl.routeOk r.f)) ∧ Below w.heap.size w w' := by
  have hc := Lib.hid (fun (s : ByteArray) w (h : s.size ≤ 9223372036854775807) => city_any s w h)
  have HE : Hid (Fl.routeOk r.f = (Cd.city r.f.frm && Cd.city r.f.to && decide (r.f.frm ≠ r.f.to))) := show _ = _ by rfl
  obtain ⟨⟨car, num, frm, to, days, dep, arr, cls, plan⟩, A, cap⟩ := r
  simp only at h1 h2 HE ⊢
  unfold Fl.fv
  have hbe := (Below.refl w.heap.size w).alloc (Nat.le_refl _) (.cells #[.string car, .int .i64 num, .string frm, .string to, .int .u8 days, .int .i64 dep, .int .i64 arr, .slice A cls.length cap, .int .i64 plan] 70)
  generalize Fl.routeOk _ = q at *
  have h3 := Lib.hid (city_any frm (w.alloc (.cells #[.string car, .int .i64 num, .string frm, .string to, .int .u8 days, .int .i64 dep, .int .i64 arr, .slice A cls.length cap, .int .i64 plan] 70)) h1)
  have h4 := Lib.hid (city_any to (w.alloc (.cells #[.string car, .int .i64 num, .string frm, .string to, .int .u8 days, .int .i64 dep, .int .i64 arr, .slice A cls.length cap, .int .i64 plan] 70)) h2)
  generalize Cd.city frm = c1 at *
  generalize Cd.city to = c2 at *
  clear hc
  cases c1
  · go_enter Tryz.func71, Tryz.ntmps71
    go_wp2_with (go_at_call 94; refine h3.out.mono ?_; rintro e w' ⟨rfl, rfl⟩)
    go_ret
    exact ⟨Cd.ret_bool (by rw [HE.out]; rfl), hbe⟩
  · cases c2
    · go_enter Tryz.func71, Tryz.ntmps71
      go_wp2_with (first
        | (go_at_call 94; (with_reducible refine h4.out.mono ?_); rintro e w' ⟨rfl, rfl⟩)
        | (go_at_call 94; (with_reducible refine h3.out.mono ?_); rintro e w' ⟨rfl, rfl⟩))
      go_ret
      exact ⟨Cd.ret_bool (by rw [HE.out]; rfl), hbe⟩
    · by_cases he : frm = to
      · subst he
        go_enter Tryz.func71, Tryz.ntmps71
        go_wp2_with (go_at_call 94; refine h3.out.mono ?_; rintro e w' ⟨rfl, rfl⟩)
        go_ret
        exact ⟨Cd.ret_bool (by rw [HE.out]; simp), hbe⟩
      · have hne := Fl.str_ne he
        go_enter Tryz.func71, Tryz.ntmps71
        go_wp2_with (first
          | (go_at_call 94; (with_reducible refine h4.out.mono ?_); rintro e w' ⟨rfl, rfl⟩)
          | (go_at_call 94; (with_reducible refine h3.out.mono ?_); rintro e w' ⟨rfl, rfl⟩))
        go_ret
        exact ⟨Cd.ret_bool (by rw [HE.out]; simp [he]), hbe⟩
theorem rightTimes_any (r : Fl.R) (w : World) : Calls Tryz.prog 72 #[Fl.fv r] w fun e w' => e = .returned (.bool (Fl.timesOk r.f)) ∧ Below w.heap.size w w' := by
  have HE : Hid (Fl.timesOk r.f = (decide (1 ≤ r.f.days) && decide (r.f.days ≤ 127) && Dt.isMin r.f.dep && Dt.isMin r.f.arr)) := show _ = _ by rfl
  obtain ⟨⟨car, num, frm, to, days, dep, arr, cls, plan⟩, A, cap⟩ := r
  simp only at HE ⊢
  unfold Fl.fv
  have hbe := (Below.refl w.heap.size w).alloc (Nat.le_refl _) (.cells #[.string car, .int .i64 num, .string frm, .string to, .int .u8 days, .int .i64 dep, .int .i64 arr, .slice A cls.length cap, .int .i64 plan] 70)
  generalize Fl.timesOk _ = q at *
  have h3 := Lib.hid (isMinute_any dep (w.alloc (.cells #[.string car, .int .i64 num, .string frm, .string to, .int .u8 days, .int .i64 dep, .int .i64 arr, .slice A cls.length cap, .int .i64 plan] 70)))
  have h4 := Lib.hid (isMinute_any arr (w.alloc (.cells #[.string car, .int .i64 num, .string frm, .string to, .int .u8 days, .int .i64 dep, .int .i64 arr, .slice A cls.length cap, .int .i64 plan] 70)))
  generalize Dt.isMin dep = c1 at *
  generalize Dt.isMin arr = c2 at *
  by_cases h1 : 1 ≤ days
  · by_cases h2 : days ≤ 127
    · cases c1
      · go_enter Tryz.func72, Tryz.ntmps72
        go_wp2_with (go_at_call 95; refine h3.out.mono ?_; rintro e w' ⟨rfl, rfl⟩)
        go_ret
        exact ⟨Cd.ret_bool (by rw [HE.out, decide_eq_true h1, decide_eq_true h2]; rfl), hbe⟩
      · go_enter Tryz.func72, Tryz.ntmps72
        go_wp2_with (first
          | (go_at_call 95; (with_reducible refine h4.out.mono ?_); rintro e w' ⟨rfl, rfl⟩)
          | (go_at_call 95; (with_reducible refine h3.out.mono ?_); rintro e w' ⟨rfl, rfl⟩))
        go_ret
        exact ⟨Cd.ret_bool (by rw [HE.out, decide_eq_true h1, decide_eq_true h2]; cases c2 <;> rfl), hbe⟩
    · go_enter Tryz.func72, Tryz.ntmps72
      go_wp2
      go_ret
      exact ⟨Cd.ret_bool (by rw [HE.out, decide_eq_false (p := days ≤ 127) (by omega), Bool.and_false]; rfl), hbe⟩
  · go_enter Tryz.func72, Tryz.ntmps72
    go_wp2
    go_ret
    exact ⟨Cd.ret_bool (by rw [HE.out, decide_eq_false (p := 1 ≤ days) (by omega)]; rfl), hbe⟩

namespace Fl
theorem clsOk_no {l : List (Int × Int)} {k : Nat} (h : k < l.length) (hk : cOk l k = false) : clsOk l = false := by
  have : (List.range l.length).all (cOk l) = false := by
    rw [List.all_eq_false]
    exact ⟨k, by simpa using h, by simp [hk]⟩
  rw [clsOk, this, Bool.and_false]
theorem clsOk_yes {l : List (Int × Int)} (h1 : 1 ≤ l.length) (h2 : l.length ≤ 6) (hk : ∀ j, j < l.length → cOk l j = true) : clsOk l = true := by
  rw [clsOk, decide_eq_true h1, decide_eq_true h2]
  simp only [Bool.and_true, Bool.true_and, List.all_eq_true, List.mem_range]
  exact hk
end Fl
set_option maxHeartbeats 1000000 in
theorem rightClasses_any (A : Option Addr) (l : List (Int × Int)) (cap B : Nat) (w : World) (h : Fl.Cls w B A l) (hB : B ≤ w.heap.size) (hl : l.length ≤ 9223372036854775807) :
    Calls Tryz.prog 73 #[.slice A l.length cap] w fun e w' => e = .returned (.bool (Fl.clsOk l)) ∧ Below w.heap.size w w' := by
  rcases (show l.length < 1 ∨ (1 ≤ l.length ∧ 6 < l.length) ∨ (1 ≤ l.length ∧ l.length ≤ 6) by omega) with h1 | ⟨h1, h2⟩ | ⟨h1, h2⟩
  · have HN : Hid (Fl.clsOk l = false) := show _ = _ by rw [Fl.clsOk, decide_eq_false (p := 1 ≤ l.length) (by omega)]; rfl
    go_enter Tryz.func73, Tryz.ntmps73
    go_wp2
    go_ret
    exact ⟨Cd.ret_bool HN.out.symm, Below.refl _ _⟩
  · have HN : Hid (Fl.clsOk l = false) := show _ = _ by rw [Fl.clsOk, decide_eq_false (p := l.length ≤ 6) (by omega), Bool.and_false]; rfl
    go_enter Tryz.func73, Tryz.ntmps73
    go_wp2
    go_ret
    exact ⟨Cd.ret_bool HN.out.symm, Below.refl _ _⟩
  · obtain ⟨b, off, rfl, hb, hc⟩ := h.at (by omega)
    have HC := Lib.hid hc
    have HY : Hid ((∀ j, j < l.length → Fl.cOk l j = true) → Fl.clsOk l = true) := fun hk => Fl.clsOk_yes h1 h2 hk
    have HNo : Hid (∀ k, k < l.length → Fl.cOk l k = false → Fl.clsOk l = false) := fun k => Fl.clsOk_no
    have HO : Hid (∀ k, Fl.cOk l k = (Cd.isL (Fl.lt l k) && decide (0 ≤ Fl.lv l k) && decide (Fl.lv l k ≤ 400) && (decide (k = 0) || decide (Fl.lt l (k - 1) < Fl.lt l k)))) := fun _ => rfl
    clear hc h
    generalize Fl.clsOk l = res at *
    go_enter Tryz.func73, Tryz.ntmps73
    go_wp2
    go_loopw [15] (fun i wr => ∃ k : Nat, k ≤ l.length ∧ i = .int .i64 k ∧ Hid (∀ j, j < k → Fl.cOk l j = true) ∧ Below w.heap.size w wr) (fun i _ => l.length - (intOf i).toNat)
    case atStart => exact ⟨0, by omega, rfl, fun j hj => absurd hj (by omega), Below.refl _ _⟩
    case round =>
      obtain ⟨k, hk, rfl, HK, hbr⟩ := hrel
      by_cases hlt : k < l.length
      · obtain ⟨g0, g1⟩ := HC.out k hlt
        have c0 := (hbr.cell (p := ⟨b, off + k * 2, none⟩) (Nat.lt_of_lt_of_le hb hB)).trans g0
        have c1 := (hbr.cell (p := ⟨b, off + k * 2 + 1, none⟩) (Nat.lt_of_lt_of_le hb hB)).trans g1
        have hbn := (hbr.alloc hbr.size (.cells #[.int .u8 (Fl.lt l k), .int .i64 (Fl.lv l k)] 67))
        have hon := HO.out k
        have hno := HNo.out k hlt
        clear g0 g1
        cases hL : Cd.isL (Fl.lt l k) with
        | false =>
          have HN := Lib.hid (hno (by rw [hon, hL]; rfl))
          clear hno hon
          go_wp2_with (go_at_call 96; refine (class_any _ _).mono ?_; rintro e w' ⟨rfl, rfl⟩)
          go_ret
          exact ⟨Cd.ret_bool HN.out.symm, hbn⟩
        | true =>
          rcases (show Fl.lv l k < 0 ∨ (0 ≤ Fl.lv l k ∧ 400 < Fl.lv l k) ∨ (0 ≤ Fl.lv l k ∧ Fl.lv l k ≤ 400) by omega) with h3 | ⟨h3, h4⟩ | ⟨h3, h4⟩
          · have HN := Lib.hid (hno (by rw [hon, decide_eq_false (p := 0 ≤ Fl.lv l k) (by omega), Bool.and_false]; rfl))
            clear hno hon
            go_wp2_with (go_at_call 96; refine (class_any _ _).mono ?_; rintro e w' ⟨rfl, rfl⟩)
            go_ret
            exact ⟨Cd.ret_bool HN.out.symm, hbn⟩
          · have HN := Lib.hid (hno (by rw [hon, decide_eq_false (p := Fl.lv l k ≤ 400) (by omega), Bool.and_false]; rfl))
            clear hno hon
            go_wp2_with (go_at_call 96; refine (class_any _ _).mono ?_; rintro e w' ⟨rfl, rfl⟩)
            go_ret
            exact ⟨Cd.ret_bool HN.out.symm, hbn⟩
          · rw [hL, decide_eq_true h3, decide_eq_true h4] at hon
            by_cases h0 : k = 0
            · have HN : Hid (∀ j, j < k + 1 → Fl.cOk l j = true) := fun j hj => by
                rw [show j = k by omega, hon, decide_eq_true h0]; rfl
              have HZ := Lib.hid h0
              have hd : decide (0 < (k : Int)) = false := by simp; omega
              have hd2 : decide (0 < k) = false := by simp; omega
              clear hno hon h0
              go_wp2_with (go_at_call 96; refine (class_any _ _).mono ?_; rintro e w' ⟨rfl, rfl⟩)
              go_quiet (fail)
              go_wp2
              go_roundw
              case rel => exact ⟨k + 1, by omega, by go_num, HN, Fl.below_drewN hbn _⟩
              case measure => simp [intOf]; omega
            · rw [decide_eq_false h0] at hon
              obtain ⟨m, hm⟩ : ∃ m, k - 1 = m := ⟨_, rfl⟩
              rw [hm] at hon
              have hm2 : m < l.length := by omega
              obtain ⟨g0, _⟩ := HC.out m hm2
              have cm := (hbr.cell (p := ⟨b, off + m * 2, none⟩) (Nat.lt_of_lt_of_le hb hB)).trans g0
              have hd : decide (0 < (k : Int)) = true := by simp; omega
              have hd2 : decide (0 < k) = true := by simp; omega
              have hw : (k : Int) - 1 = (m : Int) := by omega
              have hw2 : IntKind.i64.wrap (m : Int) = (m : Int) := IntWalk.i64_in _ (by omega)
              have cm2 : ∀ q, ((wr.alloc (.cells #[.int .u8 (Fl.lt l k), .int .i64 (Fl.lv l k)] 67)).drewN q).cell? ⟨b, off + m * 2, none⟩ = some (.int .u8 (Fl.lt l m)) := fun q => by
                have hb2 : Below wr.heap.size wr ((wr.alloc (.cells #[.int .u8 (Fl.lt l k), .int .i64 (Fl.lv l k)] 67)).drewN q) := Fl.below_drewN ((Below.refl _ _).alloc (Nat.le_refl _) _) q
                exact (hb2.cell (p := ⟨b, off + m * 2, none⟩) (Nat.lt_of_lt_of_le hb (Nat.le_trans hB hbr.size))).trans cm
              clear g0 hm
              by_cases h5 : Fl.lt l m < Fl.lt l k
              · have HN : Hid (∀ j, j < k + 1 → Fl.cOk l j = true) := fun j hj => by
                  rcases Nat.lt_or_ge j k with hj' | hj'
                  · exact HK.out j hj'
                  · rw [show j = k by omega, hon, decide_eq_true h5]; rfl
                have hd3 : decide (Fl.lt l k ≤ Fl.lt l m) = false := by simp; omega
                clear hno hon h0
                go_wp2_with (go_at_call 96; refine (class_any _ _).mono ?_; rintro e w' ⟨rfl, rfl⟩)
                go_quiet (fail)
                go_wp2
                go_roundw
                case rel => exact ⟨k + 1, by omega, by go_num, HN, Fl.below_drewN hbn _⟩
                case measure => simp [intOf]; omega
              · have HN := Lib.hid (hno (by rw [hon, decide_eq_false h5]; rfl))
                have hd3 : decide (Fl.lt l k ≤ Fl.lt l m) = true := by simp; omega
                clear hno hon h0
                go_wp2_with (go_at_call 96; refine (class_any _ _).mono ?_; rintro e w' ⟨rfl, rfl⟩)
                go_quiet (fail)
                go_wp2
                go_ret
                exact ⟨Cd.ret_bool HN.out.symm, Fl.below_drewN hbn _⟩
      · go_wp2
        go_ret
        exact ⟨Cd.ret_bool (HY.out (fun j hj => HK.out j (by omega))).symm, hbr⟩
/-- A flight is told right or not. -/
def Fl.code (f : Fl.F) : Int := if Fl.right f then 0 else 4
set_option maxHeartbeats 1000000 in
theorem check_yes (r : Fl.R) (B : Nat) (w : World) (hw : Fl.Wf r) (h : Fl.Cls w B r.A r.f.cls) (hB : B ≤ w.heap.size) (hr : Fl.right r.f = true) :
    Calls Tryz.prog 44 #[Fl.fv r] w fun e w' => e = .returned (.int .i64 0) ∧ Below w.heap.size w w' := by
  unfold Fl.right at hr
  simp only [Bool.and_eq_true] at hr
  obtain ⟨⟨⟨⟨h1, h2⟩, h3⟩, h4⟩, h5⟩ := hr
  unfold Fl.planOk at h5
  simp only [Bool.and_eq_true, decide_eq_true_eq] at h5
  obtain ⟨p0, p1⟩ := h5
  have bA := (Below.refl w.heap.size w).alloc (Nat.le_refl _) (.cells #[.string r.f.car, .int .i64 r.f.num, .string r.f.frm, .string r.f.to, .int .u8 r.f.days, .int .i64 r.f.dep, .int .i64 r.f.arr, .slice r.A r.f.cls.length r.cap, .int .i64 r.f.plan] 70)
  have H1 := Lib.hid (fun w => rightKey_any r.f w hw.car)
  have H2 := Lib.hid (fun w => rightRoute_any r w hw.frm hw.to)
  have H3 := Lib.hid (fun w => rightTimes_any r w)
  have H4 := Lib.hid (fun w' (hb : Below w.heap.size w w') => rightClasses_any r.A r.f.cls r.cap B w' (h.below hb hB) (Nat.le_trans hB hb.size) hw.l)
  rw [h1] at H1
  rw [h2] at H2
  rw [h3] at H3
  rw [h4] at H4
  have HB := Lib.hid bA
  clear h1 h2 h3 h4 bA h hw
  obtain ⟨⟨car, num, frm, to, days, dep, arr, cls, plan⟩, A, cap⟩ := r
  unfold Fl.fv at *
  simp only at H1 H2 H3 H4 HB p0 p1 ⊢
  have hq : w.heap.size < (w.alloc (.cells #[.string car, .int .i64 num, .string frm, .string to, .int .u8 days, .int .i64 dep, .int .i64 arr, .slice A cls.length cap, .int .i64 plan] 70)).heap.size := by simp
  go_enter Tryz.func44, Tryz.ntmps44
  go_wp2_with (first
    | (go_at_call 70; refine (H1.out _).mono ?_; rintro e w1 ⟨rfl, hb1⟩; obtain ⟨hc1, hf1⟩ := Fl.bcell hb1)
    | (go_at_call 71; refine (H2.out _).mono ?_; rintro e w2 ⟨rfl, hb2⟩; have k2 := hb1.trans (hb2.mono hb1.size); obtain ⟨hc2, hf2⟩ := Fl.bcell k2)
    | (go_at_call 72; refine (H3.out _).mono ?_; rintro e w3 ⟨rfl, hb3⟩; have k3 := k2.trans (hb3.mono k2.size); obtain ⟨hc3, hf3⟩ := Fl.bcell k3)
    | (go_at_call 73; refine (H4.out _ (HB.out.trans (k3.mono HB.out.size))).mono ?_; rintro e w4 ⟨rfl, hb4⟩; have k4 := k3.trans (hb4.mono k3.size); obtain ⟨hc4, hf4⟩ := Fl.bcell k4))
  go_ret
  exact ⟨rfl, HB.out.trans (k4.mono HB.out.size)⟩
set_option maxHeartbeats 1000000 in
theorem check_no_key (r : Fl.R) (B : Nat) (w : World) (hw : Fl.Wf r) (h : Fl.Cls w B r.A r.f.cls) (hB : B ≤ w.heap.size) (h1 : Fl.keyOk r.f = false) :
    Calls Tryz.prog 44 #[Fl.fv r] w fun e w' => e = .returned (.int .i64 4) ∧ Below w.heap.size w w' := by
  have bA := (Below.refl w.heap.size w).alloc (Nat.le_refl _) (.cells #[.string r.f.car, .int .i64 r.f.num, .string r.f.frm, .string r.f.to, .int .u8 r.f.days, .int .i64 r.f.dep, .int .i64 r.f.arr, .slice r.A r.f.cls.length r.cap, .int .i64 r.f.plan] 70)
  have H1 := Lib.hid (fun w => rightKey_any r.f w hw.car)
  have H2 := Lib.hid (fun w => rightRoute_any r w hw.frm hw.to)
  have H3 := Lib.hid (fun w => rightTimes_any r w)
  have H4 := Lib.hid (fun w' (hb : Below w.heap.size w w') => rightClasses_any r.A r.f.cls r.cap B w' (h.below hb hB) (Nat.le_trans hB hb.size) hw.l)
  rw [h1] at H1
  clear H2 H3 H4
  have HB := Lib.hid bA
  clear h1 bA h hw
  obtain ⟨⟨car, num, frm, to, days, dep, arr, cls, plan⟩, A, cap⟩ := r
  unfold Fl.fv at *
  simp only at H1 HB  ⊢
  have hq : w.heap.size < (w.alloc (.cells #[.string car, .int .i64 num, .string frm, .string to, .int .u8 days, .int .i64 dep, .int .i64 arr, .slice A cls.length cap, .int .i64 plan] 70)).heap.size := by simp
  go_enter Tryz.func44, Tryz.ntmps44
  go_wp2_with (first
    | (go_at_call 70; refine (H1.out _).mono ?_; rintro e w1 ⟨rfl, hb1⟩; obtain ⟨hc1, hf1⟩ := Fl.bcell hb1))
  go_ret
  exact ⟨rfl, HB.out.trans (hb1.mono HB.out.size)⟩
set_option maxHeartbeats 1000000 in
theorem check_no_route (r : Fl.R) (B : Nat) (w : World) (hw : Fl.Wf r) (h : Fl.Cls w B r.A r.f.cls) (hB : B ≤ w.heap.size) (h1 : Fl.keyOk r.f = true) (h2 : Fl.routeOk r.f = false) :
    Calls Tryz.prog 44 #[Fl.fv r] w fun e w' => e = .returned (.int .i64 4) ∧ Below w.heap.size w w' := by
  have bA := (Below.refl w.heap.size w).alloc (Nat.le_refl _) (.cells #[.string r.f.car, .int .i64 r.f.num, .string r.f.frm, .string r.f.to, .int .u8 r.f.days, .int .i64 r.f.dep, .int .i64 r.f.arr, .slice r.A r.f.cls.length r.cap, .int .i64 r.f.plan] 70)
  have H1 := Lib.hid (fun w => rightKey_any r.f w hw.car)
  have H2 := Lib.hid (fun w => rightRoute_any r w hw.frm hw.to)
  have H3 := Lib.hid (fun w => rightTimes_any r w)
  have H4 := Lib.hid (fun w' (hb : Below w.heap.size w w') => rightClasses_any r.A r.f.cls r.cap B w' (h.below hb hB) (Nat.le_trans hB hb.size) hw.l)
  rw [h1] at H1
  rw [h2] at H2
  clear H3 H4
  have HB := Lib.hid bA
  clear h1 h2 bA h hw
  obtain ⟨⟨car, num, frm, to, days, dep, arr, cls, plan⟩, A, cap⟩ := r
  unfold Fl.fv at *
  simp only at H1 H2 HB  ⊢
  have hq : w.heap.size < (w.alloc (.cells #[.string car, .int .i64 num, .string frm, .string to, .int .u8 days, .int .i64 dep, .int .i64 arr, .slice A cls.length cap, .int .i64 plan] 70)).heap.size := by simp
  go_enter Tryz.func44, Tryz.ntmps44
  go_wp2_with (first
    | (go_at_call 70; refine (H1.out _).mono ?_; rintro e w1 ⟨rfl, hb1⟩; obtain ⟨hc1, hf1⟩ := Fl.bcell hb1)
    | (go_at_call 71; refine (H2.out _).mono ?_; rintro e w2 ⟨rfl, hb2⟩; have k2 := hb1.trans (hb2.mono hb1.size); obtain ⟨hc2, hf2⟩ := Fl.bcell k2))
  go_ret
  exact ⟨rfl, HB.out.trans (k2.mono HB.out.size)⟩
set_option maxHeartbeats 1000000 in
theorem check_no_times (r : Fl.R) (B : Nat) (w : World) (hw : Fl.Wf r) (h : Fl.Cls w B r.A r.f.cls) (hB : B ≤ w.heap.size) (h1 : Fl.keyOk r.f = true) (h2 : Fl.routeOk r.f = true) (h3 : Fl.timesOk r.f = false) :
    Calls Tryz.prog 44 #[Fl.fv r] w fun e w' => e = .returned (.int .i64 4) ∧ Below w.heap.size w w' := by
  have bA := (Below.refl w.heap.size w).alloc (Nat.le_refl _) (.cells #[.string r.f.car, .int .i64 r.f.num, .string r.f.frm, .string r.f.to, .int .u8 r.f.days, .int .i64 r.f.dep, .int .i64 r.f.arr, .slice r.A r.f.cls.length r.cap, .int .i64 r.f.plan] 70)
  have H1 := Lib.hid (fun w => rightKey_any r.f w hw.car)
  have H2 := Lib.hid (fun w => rightRoute_any r w hw.frm hw.to)
  have H3 := Lib.hid (fun w => rightTimes_any r w)
  have H4 := Lib.hid (fun w' (hb : Below w.heap.size w w') => rightClasses_any r.A r.f.cls r.cap B w' (h.below hb hB) (Nat.le_trans hB hb.size) hw.l)
  rw [h1] at H1
  rw [h2] at H2
  rw [h3] at H3
  clear H4
  have HB := Lib.hid bA
  clear h1 h2 h3 bA h hw
  obtain ⟨⟨car, num, frm, to, days, dep, arr, cls, plan⟩, A, cap⟩ := r
  unfold Fl.fv at *
  simp only at H1 H2 H3 HB  ⊢
  have hq : w.heap.size < (w.alloc (.cells #[.string car, .int .i64 num, .string frm, .string to, .int .u8 days, .int .i64 dep, .int .i64 arr, .slice A cls.length cap, .int .i64 plan] 70)).heap.size := by simp
  go_enter Tryz.func44, Tryz.ntmps44
  go_wp2_with (first
    | (go_at_call 70; refine (H1.out _).mono ?_; rintro e w1 ⟨rfl, hb1⟩; obtain ⟨hc1, hf1⟩ := Fl.bcell hb1)
    | (go_at_call 71; refine (H2.out _).mono ?_; rintro e w2 ⟨rfl, hb2⟩; have k2 := hb1.trans (hb2.mono hb1.size); obtain ⟨hc2, hf2⟩ := Fl.bcell k2)
    | (go_at_call 72; refine (H3.out _).mono ?_; rintro e w3 ⟨rfl, hb3⟩; have k3 := k2.trans (hb3.mono k2.size); obtain ⟨hc3, hf3⟩ := Fl.bcell k3))
  go_ret
  exact ⟨rfl, HB.out.trans (k3.mono HB.out.size)⟩
set_option maxHeartbeats 1000000 in
theorem check_no_cls (r : Fl.R) (B : Nat) (w : World) (hw : Fl.Wf r) (h : Fl.Cls w B r.A r.f.cls) (hB : B ≤ w.heap.size) (h1 : Fl.keyOk r.f = true) (h2 : Fl.routeOk r.f = true) (h3 : Fl.timesOk r.f = true) (h4 : Fl.clsOk r.f.cls = false) :
    Calls Tryz.prog 44 #[Fl.fv r] w fun e w' => e = .returned (.int .i64 4) ∧ Below w.heap.size w w' := by
  have bA := (Below.refl w.heap.size w).alloc (Nat.le_refl _) (.cells #[.string r.f.car, .int .i64 r.f.num, .string r.f.frm, .string r.f.to, .int .u8 r.f.days, .int .i64 r.f.dep, .int .i64 r.f.arr, .slice r.A r.f.cls.length r.cap, .int .i64 r.f.plan] 70)
  have H1 := Lib.hid (fun w => rightKey_any r.f w hw.car)
  have H2 := Lib.hid (fun w => rightRoute_any r w hw.frm hw.to)
  have H3 := Lib.hid (fun w => rightTimes_any r w)
  have H4 := Lib.hid (fun w' (hb : Below w.heap.size w w') => rightClasses_any r.A r.f.cls r.cap B w' (h.below hb hB) (Nat.le_trans hB hb.size) hw.l)
  rw [h1] at H1
  rw [h2] at H2
  rw [h3] at H3
  rw [h4] at H4
  have HB := Lib.hid bA
  clear h1 h2 h3 h4 bA h hw
  obtain ⟨⟨car, num, frm, to, days, dep, arr, cls, plan⟩, A, cap⟩ := r
  unfold Fl.fv at *
  simp only at H1 H2 H3 H4 HB  ⊢
  have hq : w.heap.size < (w.alloc (.cells #[.string car, .int .i64 num, .string frm, .string to, .int .u8 days, .int .i64 dep, .int .i64 arr, .slice A cls.length cap, .int .i64 plan] 70)).heap.size := by simp
  go_enter Tryz.func44, Tryz.ntmps44
  go_wp2_with (first
    | (go_at_call 70; refine (H1.out _).mono ?_; rintro e w1 ⟨rfl, hb1⟩; obtain ⟨hc1, hf1⟩ := Fl.bcell hb1)
    | (go_at_call 71; refine (H2.out _).mono ?_; rintro e w2 ⟨rfl, hb2⟩; have k2 := hb1.trans (hb2.mono hb1.size); obtain ⟨hc2, hf2⟩ := Fl.bcell k2)
    | (go_at_call 72; refine (H3.out _).mono ?_; rintro e w3 ⟨rfl, hb3⟩; have k3 := k2.trans (hb3.mono k2.size); obtain ⟨hc3, hf3⟩ := Fl.bcell k3)
    | (go_at_call 73; refine (H4.out _ (HB.out.trans (k3.mono HB.out.size))).mono ?_; rintro e w4 ⟨rfl, hb4⟩; have k4 := k3.trans (hb4.mono k3.size); obtain ⟨hc4, hf4⟩ := Fl.bcell k4))
  go_ret
  exact ⟨rfl, HB.out.trans (k4.mono HB.out.size)⟩
set_option maxHeartbeats 1000000 in
theorem check_no_plan0 (r : Fl.R) (B : Nat) (w : World) (hw : Fl.Wf r) (h : Fl.Cls w B r.A r.f.cls) (hB : B ≤ w.heap.size) (h1 : Fl.keyOk r.f = true) (h2 : Fl.routeOk r.f = true) (h3 : Fl.timesOk r.f = true) (h4 : Fl.clsOk r.f.cls = true) (p0 : r.f.plan < 0) :
    Calls Tryz.prog 44 #[Fl.fv r] w fun e w' => e = .returned (.int .i64 4) ∧ Below w.heap.size w w' := by
  have bA := (Below.refl w.heap.size w).alloc (Nat.le_refl _) (.cells #[.string r.f.car, .int .i64 r.f.num, .string r.f.frm, .string r.f.to, .int .u8 r.f.days, .int .i64 r.f.dep, .int .i64 r.f.arr, .slice r.A r.f.cls.length r.cap, .int .i64 r.f.plan] 70)
  have H1 := Lib.hid (fun w => rightKey_any r.f w hw.car)
  have H2 := Lib.hid (fun w => rightRoute_any r w hw.frm hw.to)
  have H3 := Lib.hid (fun w => rightTimes_any r w)
  have H4 := Lib.hid (fun w' (hb : Below w.heap.size w w') => rightClasses_any r.A r.f.cls r.cap B w' (h.below hb hB) (Nat.le_trans hB hb.size) hw.l)
  rw [h1] at H1
  rw [h2] at H2
  rw [h3] at H3
  rw [h4] at H4
  have HB := Lib.hid bA
  clear h1 h2 h3 h4 bA h hw
  obtain ⟨⟨car, num, frm, to, days, dep, arr, cls, plan⟩, A, cap⟩ := r
  unfold Fl.fv at *
  simp only at H1 H2 H3 H4 HB p0 ⊢
  have hq : w.heap.size < (w.alloc (.cells #[.string car, .int .i64 num, .string frm, .string to, .int .u8 days, .int .i64 dep, .int .i64 arr, .slice A cls.length cap, .int .i64 plan] 70)).heap.size := by simp
  go_enter Tryz.func44, Tryz.ntmps44
  go_wp2_with (first
    | (go_at_call 70; refine (H1.out _).mono ?_; rintro e w1 ⟨rfl, hb1⟩; obtain ⟨hc1, hf1⟩ := Fl.bcell hb1)
    | (go_at_call 71; refine (H2.out _).mono ?_; rintro e w2 ⟨rfl, hb2⟩; have k2 := hb1.trans (hb2.mono hb1.size); obtain ⟨hc2, hf2⟩ := Fl.bcell k2)
    | (go_at_call 72; refine (H3.out _).mono ?_; rintro e w3 ⟨rfl, hb3⟩; have k3 := k2.trans (hb3.mono k2.size); obtain ⟨hc3, hf3⟩ := Fl.bcell k3)
    | (go_at_call 73; refine (H4.out _ (HB.out.trans (k3.mono HB.out.size))).mono ?_; rintro e w4 ⟨rfl, hb4⟩; have k4 := k3.trans (hb4.mono k3.size); obtain ⟨hc4, hf4⟩ := Fl.bcell k4))
  go_ret
  exact ⟨rfl, HB.out.trans (k4.mono HB.out.size)⟩
set_option maxHeartbeats 1000000 in
theorem check_no_plan8 (r : Fl.R) (B : Nat) (w : World) (hw : Fl.Wf r) (h : Fl.Cls w B r.A r.f.cls) (hB : B ≤ w.heap.size) (h1 : Fl.keyOk r.f = true) (h2 : Fl.routeOk r.f = true) (h3 : Fl.timesOk r.f = true) (h4 : Fl.clsOk r.f.cls = true) (p0 : 0 ≤ r.f.plan) (p1 : 8 ≤ r.f.plan) :
    Calls Tryz.prog 44 #[Fl.fv r] w fun e w' => e = .returned (.int .i64 4) ∧ Below w.heap.size w w' := by
  have bA := (Below.refl w.heap.size w).alloc (Nat.le_refl _) (.cells #[.string r.f.car, .int .i64 r.f.num, .string r.f.frm, .string r.f.to, .int .u8 r.f.days, .int .i64 r.f.dep, .int .i64 r.f.arr, .slice r.A r.f.cls.length r.cap, .int .i64 r.f.plan] 70)
  have H1 := Lib.hid (fun w => rightKey_any r.f w hw.car)
  have H2 := Lib.hid (fun w => rightRoute_any r w hw.frm hw.to)
  have H3 := Lib.hid (fun w => rightTimes_any r w)
  have H4 := Lib.hid (fun w' (hb : Below w.heap.size w w') => rightClasses_any r.A r.f.cls r.cap B w' (h.below hb hB) (Nat.le_trans hB hb.size) hw.l)
  rw [h1] at H1
  rw [h2] at H2
  rw [h3] at H3
  rw [h4] at H4
  have HB := Lib.hid bA
  clear h1 h2 h3 h4 bA h hw
  obtain ⟨⟨car, num, frm, to, days, dep, arr, cls, plan⟩, A, cap⟩ := r
  unfold Fl.fv at *
  simp only at H1 H2 H3 H4 HB p0 p1 ⊢
  have hq : w.heap.size < (w.alloc (.cells #[.string car, .int .i64 num, .string frm, .string to, .int .u8 days, .int .i64 dep, .int .i64 arr, .slice A cls.length cap, .int .i64 plan] 70)).heap.size := by simp
  go_enter Tryz.func44, Tryz.ntmps44
  go_wp2_with (first
    | (go_at_call 70; refine (H1.out _).mono ?_; rintro e w1 ⟨rfl, hb1⟩; obtain ⟨hc1, hf1⟩ := Fl.bcell hb1)
    | (go_at_call 71; refine (H2.out _).mono ?_; rintro e w2 ⟨rfl, hb2⟩; have k2 := hb1.trans (hb2.mono hb1.size); obtain ⟨hc2, hf2⟩ := Fl.bcell k2)
    | (go_at_call 72; refine (H3.out _).mono ?_; rintro e w3 ⟨rfl, hb3⟩; have k3 := k2.trans (hb3.mono k2.size); obtain ⟨hc3, hf3⟩ := Fl.bcell k3)
    | (go_at_call 73; refine (H4.out _ (HB.out.trans (k3.mono HB.out.size))).mono ?_; rintro e w4 ⟨rfl, hb4⟩; have k4 := k3.trans (hb4.mono k3.size); obtain ⟨hc4, hf4⟩ := Fl.bcell k4))
  go_ret
  exact ⟨rfl, HB.out.trans (k4.mono HB.out.size)⟩
theorem check_no (r : Fl.R) (B : Nat) (w : World) (hw : Fl.Wf r) (h : Fl.Cls w B r.A r.f.cls) (hB : B ≤ w.heap.size) (hr : Fl.right r.f = false) :
    Calls Tryz.prog 44 #[Fl.fv r] w fun e w' => e = .returned (.int .i64 4) ∧ Below w.heap.size w w' := by
  unfold Fl.right at hr
  cases h1 : Fl.keyOk r.f with
  | false => exact check_no_key r B w hw h hB h1
  | true =>
    cases h2 : Fl.routeOk r.f with
    | false => exact check_no_route r B w hw h hB h1 h2
    | true =>
      cases h3 : Fl.timesOk r.f with
      | false => exact check_no_times r B w hw h hB h1 h2 h3
      | true =>
        cases h4 : Fl.clsOk r.f.cls with
        | false => exact check_no_cls r B w hw h hB h1 h2 h3 h4
        | true =>
          rw [h1, h2, h3, h4] at hr
          unfold Fl.planOk at hr
          rcases (show r.f.plan < 0 ∨ (0 ≤ r.f.plan ∧ 8 ≤ r.f.plan) ∨ (0 ≤ r.f.plan ∧ r.f.plan < 8) by omega) with p0 | ⟨p0, p1⟩ | ⟨p0, p1⟩
          · exact check_no_plan0 r B w hw h hB h1 h2 h3 h4 p0
          · exact check_no_plan8 r B w hw h hB h1 h2 h3 h4 p0 p1
          · rw [decide_eq_true p0, decide_eq_true p1] at hr
            cases hr
theorem check_any (r : Fl.R) (B : Nat) (w : World) (hw : Fl.Wf r) (h : Fl.Cls w B r.A r.f.cls) (hB : B ≤ w.heap.size) :
    Calls Tryz.prog 44 #[Fl.fv r] w fun e w' => e = .returned (.int .i64 (Fl.code r.f)) ∧ Below w.heap.size w w' := by
  unfold Fl.code
  cases hr : Fl.right r.f with
  | true => exact check_yes r B w hw h hB hr
  | false => exact check_no r B w hw h hB hr
end Go.Proofs.YtfodabbmjggieaaGreat
namespace Go.Proofs.YtfodabbmjggieaaGreat
open Go.RowKit Go.WideMaps
set_option linter.unusedVariables false

namespace Mp
/-- Only block r has changed. -/
structure Only (r : Nat) (w w' : World) : Prop where
  os : w'.os = w.os
  tape : w'.tape = w.tape
  output : w'.output = w.output
  size : w'.heap.size = w.heap.size
  block : ∀ k, k ≠ r → w'.heap[k]? = w.heap[k]?
theorem Only.below {r B : Nat} {w w' : World} (h : Only r w w') (hB : B ≤ r) : Below B w w' := ⟨h.os, h.tape, h.output, Nat.le_of_eq h.size.symm, fun k hk => h.block k (by omega)⟩
def KeyIs (P : Program) (k : TypeId) (v : Value) : Prop := ∃ l, keyOf P k v = some l
/-- The map at r has just these entries. -/
def MapL (P : Program) (k : TypeId) (w : World) (r : Nat) (l : List (Value × Value)) : Prop :=
  ∃ es ck, w.heap[r]? = some (.map es ck) ∧ es.toList.map (fun e => (e.key, e.val)) = l ∧ (∀ p ∈ l, KeyIs P k p.1)
section
variable {P : Program} {k : TypeId} {w w' : World} {r : Nat} {l : List (Value × Value)}
theorem MapL.lt (h : MapL P k w r l) : r < w.heap.size := by
  obtain ⟨es, ck, hb, _⟩ := h
  rcases Nat.lt_or_ge r w.heap.size with hlt | hge
  · exact hlt
  · rw [Array.getElem?_eq_none hge] at hb; cases hb
theorem MapL.kept (h : MapL P k w r l) (e : w'.heap[r]? = w.heap[r]?) : MapL P k w' r l := by
  obtain ⟨es, ck, hb, h2⟩ := h
  exact ⟨es, ck, e.trans hb, h2⟩
theorem MapL.made (P : Program) (k : TypeId) (w : World) : MapL P k (w.alloc (.map #[] 0)) w.heap.size [] :=
  ⟨#[], 0, (MapKept.heap_alloc w _).1, rfl, by simp⟩
theorem keys_of {es : Array MapEntry} (he : es.toList.map (fun e => (e.key, e.val)) = l) (hk : ∀ p ∈ l, KeyIs P k p.1) : ∀ e ∈ es.toList, ∃ q, keyOf P k e.key = some q := fun e he' => hk (e.key, e.val) (by rw [← he]; exact List.mem_map.2 ⟨e, he', rfl⟩)
theorem MapL.look (K : KeyLaw P k) (h : MapL P k w r l) {key : Value} (hk : KeyIs P k key) {t e : TypeId} (ht : P.underlying t = some (.map k e)) (z : Value) (hz : (zeroValue e).run P w = .ok z w) :
    (∃ (j : Nat) (v : Value), l[j]? = some (key, v) ∧ (Instr.lookup t (.map (some r)) key true).run P w = .ok (.tuple #[v, .bool true]) w) ∨ ((∀ p ∈ l, p.1 ≠ key) ∧ (Instr.lookup t (.map (some r)) key true).run P w = .ok (.tuple #[z, .bool false]) w) := by
  obtain ⟨es, ck, hb, he, hI⟩ := h
  obtain ⟨kl, hkl⟩ := hk
  rcases K.find w hkl es.toList (keys_of he hI) with ⟨h1, h2⟩ | ⟨j, e0, h1, h2, h3⟩
  · right
    refine ⟨fun p hp => ?_, by simp [Instr.lookup, run_underlying ht, MapKept.run_getObj_map hb, K.check w _ hkl, h1, hz]⟩
    rw [← he] at hp
    obtain ⟨e1, g1, g2⟩ := List.mem_map.1 hp
    rw [← g2]
    exact h2 e1 g1
  · left
    refine ⟨j, e0.val, ?_, by simp [Instr.lookup, run_underlying ht, MapKept.run_getObj_map hb, K.check w _ hkl, h1]⟩
    rw [← he, List.getElem?_map, h2, Option.map_some, h3]
theorem heap_setObj (w : World) (r : Nat) (o : Obj) (h : r < w.heap.size) : ({ w with heap := w.heap.setIfInBounds r o } : World).heap[r]? = some o := by
  simp [h]
theorem MapL.upd (K : KeyLaw P k) (h : MapL P k w r l) {key : Value} (hk : KeyIs P k key) {t e : TypeId} (ht : P.underlying t = some (.map k e)) (v : Value) :
    ∃ w' l', (Instr.mapUpdate t (.map (some r)) key v).run P w = .ok () w' ∧ MapL P k w' r l' ∧ Only r w w' ∧ (((∀ p ∈ l, p.1 ≠ key) ∧ l' = l ++ [(key, v)]) ∨ ∃ (j : Nat) (u : Value), l[j]? = some (key, u) ∧ l' = l.set j (key, v)) := by
  have hlt := h.lt
  obtain ⟨es, ck, hb, he, hI⟩ := h
  have hk' := hk
  obtain ⟨kl, hkl⟩ := hk
  have hfr : ∀ o, Only r w ({ w with heap := w.heap.setIfInBounds r o } : World) := fun o =>
    ⟨rfl, rfl, rfl, by simp, fun i hi => by simp only [Array.getElem?_setIfInBounds]; rw [if_neg (fun e => hi e.symm)]⟩
  have hset : ∀ o, (setObj r o).run P w = .ok () ({ w with heap := w.heap.setIfInBounds r o } : World) := fun o => by
    simp [setObj, Sem.run, hb]
  rcases K.find w hkl es.toList (keys_of he hI) with ⟨h1, h2⟩ | ⟨j, e0, h1, h2, h3⟩
  · refine ⟨_, l ++ [(key, v)], by simp [Instr.mapUpdate, run_underlying ht, MapKept.run_getObj_map hb, K.check w _ hkl, h1, hset], ⟨es.push { key := key, val := v, born := ck }, ck + 1, heap_setObj w r _ hlt, ?_, ?_⟩, hfr _, .inl ⟨?_, rfl⟩⟩
    · simp [he]
    · intro p hp
      rcases List.mem_append.1 hp with hp | hp
      · exact hI p hp
      · simp at hp; rw [hp]; exact hk'
    · intro p hp
      rw [← he] at hp
      obtain ⟨e1, g1, g2⟩ := List.mem_map.1 hp
      rw [← g2]
      exact h2 e1 g1
  · have he1 : es[j]? = some e0 := by simpa using h2
    have hstay : (Instr.keyThatStays (((es[j]?).map (·.key)).getD key) key).run P w = .ok key w := by
      rw [he1, Option.map_some, Option.getD_some, h3]
      exact K.stays w hkl
    have hl : l[j]? = some (key, e0.val) := by rw [← he, List.getElem?_map, h2, Option.map_some, h3]
    refine ⟨_, l.set j (key, v), by simp only [Instr.mapUpdate, run_underlying ht, MapKept.run_getObj_map hb, K.check w _ hkl, h1, Sem.run_bind, Result.andThen_ok, hstay, hset], ⟨es.modify j fun e => { e with key := key, val := v }, ck, heap_setObj w r _ hlt, ?_, ?_⟩, hfr _, .inr ⟨j, e0.val, hl, rfl⟩⟩
    · rw [← he]
      apply List.ext_getElem?
      intro i
      simp only [Array.toList_modify, List.getElem?_map, List.getElem?_modify, List.getElem?_set, List.length_map]
      by_cases hij : j = i
      · subst hij
        have hq : j < es.size := by
          rcases Nat.lt_or_ge j es.size with q | q
          · exact q
          · rw [Array.getElem?_eq_none q] at he1; cases he1
        rw [h2]
        simp [hq]
      · simp [hij]
    · intro p hp
      rcases List.mem_or_eq_of_mem_set hp with hp | hp
      · exact hI p hp
      · rw [hp]; exact hk'
end
end Mp
end Go.Proofs.YtfodabbmjggieaaGreat
namespace Go.Proofs.YtfodabbmjggieaaGreat
open Go.RowKit
set_option linter.unusedVariables false

namespace Rw
/-- But for the blocks F the world w' is as w was. -/
structure Fr (F : Nat → Prop) (w w' : World) : Prop where
  os : w'.os = w.os
  tape : w'.tape = w.tape
  output : w'.output = w.output
  size : w.heap.size ≤ w'.heap.size
  block : ∀ k, k < w.heap.size → ¬ F k → w'.heap[k]? = w.heap[k]?
theorem Fr.refl (F : Nat → Prop) (w : World) : Fr F w w := ⟨rfl, rfl, rfl, Nat.le_refl _, fun _ _ _ => rfl⟩
theorem Fr.trans {F G : Nat → Prop} {w w' w'' : World} (h : Fr F w w') (h' : Fr G w' w'') (hG : ∀ k, k < w.heap.size → G k → F k) : Fr F w w'' :=
  ⟨h'.os.trans h.os, h'.tape.trans h.tape, h'.output.trans h.output, Nat.le_trans h.size h'.size, fun k hk hF =>
    (h'.block k (Nat.lt_of_lt_of_le hk h.size) (fun hg => hF (hG k hk hg))).trans (h.block k hk hF)⟩
theorem Fr.below {F : Nat → Prop} {B : Nat} {w w' : World} (h : Fr F w w') (hB : B ≤ w.heap.size) (hF : ∀ k, F k → B ≤ k) : Below B w w' :=
  ⟨h.os, h.tape, h.output, h.size, fun k hk => h.block k (by omega) (fun hf => by have := hF k hf; omega)⟩
theorem Fr.of_below {F : Nat → Prop} {w w' : World} (h : Below w.heap.size w w') : Fr F w w' :=
  ⟨h.os, h.tape, h.output, h.size, fun k hk _ => h.block k hk⟩
theorem Fr.setRow (w : World) (g : Nat) (cs : Array Value) : Fr (· = g) w (w.setRow g cs) :=
  ⟨rfl, rfl, rfl, by simp, fun k _ hk => by
    simp only [World.setRow, Array.getElem?_modify]
    rw [if_neg (fun e => hk e.symm)]⟩
theorem lt_of_some {w : World} {k : Nat} {o : Obj} (h : w.heap[k]? = some o) : k < w.heap.size := by
  rcases Nat.lt_or_ge k w.heap.size with hlt | hge
  · exact hlt
  · rw [Array.getElem?_eq_none hge] at h; cases h
/-- A block that is a row of just these cells. -/
def Blk (w : World) (g : Nat) (t : TypeId) (cs : List Value) : Prop := w.heap[g]? = some (.cells cs.toArray t (0, 0))
theorem Blk.kept {w w' : World} {g : Nat} {t : TypeId} {cs : List Value} (h : Blk w g t cs) (e : w'.heap[g]? = w.heap[g]?) : Blk w' g t cs := e.trans h
theorem Blk.lt {w : World} {g : Nat} {t : TypeId} {cs : List Value} (h : Blk w g t cs) : g < w.heap.size := lt_of_some h
theorem Blk.below {w w' : World} {g : Nat} {t : TypeId} {cs : List Value} {B : Nat} (h : Blk w g t cs) (hb : Below B w w') (hg : g < B) : Blk w' g t cs := h.kept (hb.block g hg)
theorem Blk.below' {w w' : World} {g : Nat} {t : TypeId} {cs : List Value} (h : Blk w g t cs) (hb : Below w.heap.size w w') : Blk w' g t cs := h.kept (hb.block g h.lt)
theorem Blk.cell {w : World} {g : Nat} {t : TypeId} {cs : List Value} (h : Blk w g t cs) (j : Nat) : w.cell? ⟨g, j, none⟩ = cs[j]? := (cell_of_row _ _ _ _ _ _ h).trans (by simp)
theorem Blk.free {w : World} {g : Nat} {t : TypeId} {cs : List Value} (h : Blk w g t cs) (j : Nat) : w.frozen? ⟨g, j, none⟩ = false := by
  unfold World.frozen?
  rw [show w.heap[g]? = _ from h]
  simp
theorem Blk.range {w : World} {g : Nat} {t : TypeId} {cs : List Value} (h : Blk w g t cs) : w.rangeAt g 0 cs := fun j v hv => by rw [Nat.zero_add, h.cell j]; exact hv
theorem Blk.made (w : World) (t : TypeId) (cs : List Value) : Blk (w.alloc (.cells cs.toArray t)) w.heap.size t cs := heap_alloc_new w _
section
variable {w : World} {ops : Array Oper} {rest : List Oper} {o : Oper} {a : Act} {Q : Exit → Act → World → Prop}
theorem wpList_alloc (hg : o.guard = none) (t : TypeId) (hop : o.op = Op.alloc t) (cs : List Value) (hz : ∀ w, (zeroValue t).run Tryz.prog w = .ok (.agg cs.toArray) w)
    (hK : ∀ w', Blk w' w.heap.size t cs → Below w.heap.size w w' → w'.heap.size = w.heap.size + 1 → wpList Tryz.prog ops Q rest (a.put o.dst (.pointer (some ⟨w.heap.size, 0, none⟩))) w') : wpList Tryz.prog ops Q (o :: rest) a w := by
  refine wpList_plain hg fun K hK' => ?_
  have hr : (Instr.alloc t true (.tuple #[])).run Tryz.prog w = .ok (.pointer (some ⟨w.heap.size, 0, none⟩)) (w.alloc (.cells cs.toArray t)) := by
    simp [Instr.alloc, hz, newVar, newRow, Value.cells, go_sem]
  unfold Oper.wp
  simp [execOp, hop, hr, Result.andThen]
  exact hK' _ _ (hK _ (heap_alloc_new w _) ((Below.refl _ _).alloc (Nat.le_refl _) _) (by simp))
theorem wpList_box (hg : o.guard = none) (t : TypeId) (y : Operand) (hop : o.op = Op.box t y) (cs : List Value) (hx : a.eval y = .agg cs.toArray)
    (hK : ∀ w', Blk w' w.heap.size t cs → Below w.heap.size w w' → w'.heap.size = w.heap.size + 1 → wpList Tryz.prog ops Q rest (a.put o.dst (.pointer (some ⟨w.heap.size, 0, none⟩))) w') : wpList Tryz.prog ops Q (o :: rest) a w := by
  refine wpList_plain hg fun K hK' => ?_
  have hr : (Instr.box t (.agg cs.toArray)).run Tryz.prog w = .ok (.pointer (some ⟨w.heap.size, 0, none⟩)) (w.alloc (.cells cs.toArray t)) := by
    simp [Instr.box, newVar, newRow, Value.cells, go_sem]
  unfold Oper.wp
  simp [execOp, hop, hx, hr, Result.andThen]
  exact hK' _ _ (hK _ (heap_alloc_new w _) ((Below.refl _ _).alloc (Nat.le_refl _) _) (by simp))
theorem run_store_row {g off : Nat} {cur : Array Value} {e t : TypeId} (hg : w.heap[g]? = some (.cells cur e (0, 0))) (cs : List Value) (hi : (Tryz.prog.info? t).map (·.size) = some cs.length) (hfit : off + cs.length ≤ cur.size) (h1 : ∀ v ∈ cs, v.oneCell' = true) :
    (Instr.storeAt t (.pointer (some ⟨g, off, none⟩)) (.agg cs.toArray)).run Tryz.prog w = .ok () (w.setRow g (cur.toList.take off ++ cs ++ cur.toList.drop (off + cs.length)).toArray) := by
  have hst := run_storeCells_at Tryz.prog g off e cs 0 cur w hg (by simpa using hfit) h1
  simp only [Nat.add_zero] at hst
  cases hq : Tryz.prog.info? t with
  | none => simp [hq] at hi
  | some i =>
    have hs : i.size = cs.length := by simpa [hq] using hi
    simp [Instr.storeAt, Instr.sureAddr, storeVar, sizeOf, typeInfo, hq, hs, Value.cells, hst]
theorem wpList_store_whole (hgd : o.guard = none) (t : TypeId) (x y : Operand) (hop : o.op = Op.store t x y) (g : Nat) (hx : a.eval x = .pointer (some ⟨g, 0, none⟩)) (cs : List Value) (hy : a.eval y = .agg cs.toArray)
    (cur : List Value) (e : TypeId) (hg : Blk w g e cur) (hi : (Tryz.prog.info? t).map (·.size) = some cs.length) (hfit : cs.length = cur.length) (h1 : ∀ v ∈ cs, v.oneCell' = true)
    (hK : ∀ w', Blk w' g e cs → Fr (· = g) w w' → wpList Tryz.prog ops Q rest (a.put o.dst undef) w') : wpList Tryz.prog ops Q (o :: rest) a w := by
  refine wpList_plain hgd fun K hK' => ?_
  have hr := run_store_row (w := w) (off := 0) (t := t) hg cs hi (by simp [hfit]) h1
  unfold Oper.wp execOp
  simp only [hop, hx, hy, Sem.run_bind, hr, Sem.run_pure, Result.andThen_ok]
  refine hK' _ _ (hK _ ?_ (Fr.setRow w g _))
  unfold Blk
  rw [setRow_heap w g cur.toArray _ e (0, 0) hg]
  simp [hfit]
/-- A store of one cell. -/
theorem wpList_store_one (hgd : o.guard = none) (t : TypeId) (x y : Operand) (hop : o.op = Op.store t x y) (g j : Nat) (hx : a.eval x = .pointer (some ⟨g, j, none⟩)) (v : Value) (hy : a.eval y = v) (hv : v.cells = #[v])
    (cur : List Value) (e : TypeId) (hg : Blk w g e cur) (hi : (Tryz.prog.info? t).map (·.size) = some 1) (hj : j < cur.length) (h1 : v.oneCell' = true)
    (hK : ∀ w', Blk w' g e (cur.set j v) → Fr (· = g) w w' → wpList Tryz.prog ops Q rest (a.put o.dst undef) w') : wpList Tryz.prog ops Q (o :: rest) a w := by
  refine wpList_plain hgd fun K hK' => ?_
  have hst := run_storeCells_at Tryz.prog g j e [v] 0 cur.toArray w hg (by simp; omega) (by simp [h1])
  simp only [Nat.add_zero] at hst
  cases hq : Tryz.prog.info? t with
  | none => simp [hq] at hi
  | some i =>
    have hs : i.size = 1 := by simpa [hq] using hi
    have hr : (Instr.storeAt t (.pointer (some ⟨g, j, none⟩)) v).run Tryz.prog w = .ok () (w.setRow g (cur.take j ++ [v] ++ cur.drop (j + 1)).toArray) := by
      simp [Instr.storeAt, Instr.sureAddr, storeVar, sizeOf, typeInfo, hq, hs, hv, hst]
    unfold Oper.wp execOp
    simp only [hop, hx, hy, Sem.run_bind, hr, Sem.run_pure, Result.andThen_ok]
    refine hK' _ _ (hK _ ?_ (Fr.setRow w g _))
    unfold Blk
    rw [setRow_heap w g cur.toArray _ e (0, 0) hg, List.set_eq_take_append_cons_drop, if_pos hj]
    simp
end
end Rw
end Go.Proofs.YtfodabbmjggieaaGreat
namespace Go.Proofs.YtfodabbmjggieaaGreat
open Go.RowKit
set_option linter.unusedVariables false

namespace Fl
/-- Does it fly on a day? -/
def on (f : F) (d : Int) : Bool := decide (0 ≤ d) && decide (d < 366) && decide (f.days / 2 ^ (d % 7).toNat % 2 = 1)
theorem on_no {f : F} {d : Int} (h : ¬ (0 ≤ d ∧ d < 366)) : on f d = false := by
  unfold on
  by_cases h1 : 0 ≤ d
  · rw [decide_eq_false (p := d < 366) (by omega)]; simp
  · rw [decide_eq_false (p := 0 ≤ d) h1]; rfl
theorem on_yes {f : F} {d : Int} (h1 : 0 ≤ d) (h2 : d < 366) : on f d = decide (f.days / 2 ^ (d % 7).toNat % 2 = 1) := by
  unfold on
  rw [decide_eq_true h1, decide_eq_true h2]; rfl
theorem seven {d : Int} : d % 7 = 0 ∨ d % 7 = 1 ∨ d % 7 = 2 ∨ d % 7 = 3 ∨ d % 7 = 4 ∨ d % 7 = 5 ∨ d % 7 = 6 := by omega
theorem and1_bits : ∀ n : Fin 256, bits BinOp.and IntKind.u8 (n.val : Int) 1 = (n.val : Int) % 2 := by decide +kernel
theorem and1 (b : Int) (h0 : 0 ≤ b) (h1 : b < 256) : (bits BinOp.and IntKind.u8 b 1 == 1) = decide (b % 2 = 1) := by
  have := and1_bits ⟨b.toNat, by omega⟩
  simp only [show ((b.toNat : Nat) : Int) = b by omega] at this
  rw [this]
  by_cases h : b % 2 = 1
  · rw [h]; rfl
  · rw [show b % 2 = 0 by omega]; rfl
end Fl
theorem flies_any (r : Fl.R) (d : Int) (w : World) (hw : Fl.Wf r) : Calls Tryz.prog 78 #[Fl.fv r, .int .i64 d] w fun e w' => e = .returned (.bool (Fl.on r.f d)) ∧ Below w.heap.size w w' := by
  have d0 := hw.d0
  have d1 := hw.d1
  clear hw
  by_cases h : 0 ≤ d ∧ d < 366
  · obtain ⟨h1, h2⟩ := h
    have HN := Lib.hid (Fl.on_yes (f := r.f) h1 h2)
    have HW := Lib.hid (fun w => weekday_yes d w h1 h2)
    obtain ⟨⟨car, num, frm, to, days, dep, arr, cls, plan⟩, A, cap⟩ := r
    unfold Fl.fv
    simp only at HN d0 d1 ⊢
    have hbe := (Below.refl w.heap.size w).alloc (Nat.le_refl _) (.cells #[.string car, .int .i64 num, .string frm, .string to, .int .u8 days, .int .i64 dep, .int .i64 arr, .slice A cls.length cap, .int .i64 plan] 70)
    generalize Fl.on _ d = q at *
    rcases Fl.seven (d := d) with h7 | h7 | h7 | h7 | h7 | h7 | h7
    all_goals rw [h7] at HN HW
    all_goals clear h7 h1 h2
    all_goals go_enter Tryz.func78, Tryz.ntmps78
    all_goals go_wp2_with (go_at_call 108; refine (HW.out _).mono ?_; rintro e w' ⟨rfl, rfl⟩)
    all_goals go_ret
    all_goals exact ⟨Cd.ret_bool (by (rw [Fl.and1 _ (by omega) (by omega), HN.out]; first | rfl | simp)), hbe⟩
  · have HN := Lib.hid (Fl.on_no (f := r.f) h)
    have HW := Lib.hid (fun w => weekday_no d w h)
    clear h
    obtain ⟨⟨car, num, frm, to, days, dep, arr, cls, plan⟩, A, cap⟩ := r
    unfold Fl.fv
    have hbe := (Below.refl w.heap.size w).alloc (Nat.le_refl _) (.cells #[.string car, .int .i64 num, .string frm, .string to, .int .u8 days, .int .i64 dep, .int .i64 arr, .slice A cls.length cap, .int .i64 plan] 70)
    go_enter Tryz.func78, Tryz.ntmps78
    go_wp2_with (go_at_call 108; refine (HW.out _).mono ?_; rintro e w' ⟨rfl, rfl⟩)
    go_ret
    exact ⟨Cd.ret_bool HN.out.symm, hbe⟩
end Go.Proofs.YtfodabbmjggieaaGreat
namespace Go.Proofs.YtfodabbmjggieaaGreat
open Go.RowKit
set_option linter.unusedVariables false

namespace Fl
def inI (n a b : Int) : Bool := decide (a ≤ n) && decide (n ≤ b)
end Fl
theorem in_any (n a b : Int) (w : World) : Calls Tryz.prog 64 #[.int .i64 n, .int .i64 a, .int .i64 b] w fun e w' => e = .returned (.bool (Fl.inI n a b)) ∧ w = w' := by
  have HE : Hid (Fl.inI n a b = (decide (a ≤ n) && decide (n ≤ b))) := show _ = _ by rfl
  generalize Fl.inI n a b = q at *
  by_cases h1 : a ≤ n
  · by_cases h2 : n ≤ b
    · go_enter Tryz.func64, Tryz.ntmps64
      go_wp2
      go_ret
      exact ⟨Cd.ret_bool (by rw [HE.out, decide_eq_true h1, decide_eq_true h2]; rfl), rfl⟩
    · go_enter Tryz.func64, Tryz.ntmps64
      go_wp2
      go_ret
      exact ⟨Cd.ret_bool (by rw [HE.out, decide_eq_false (p := n ≤ b) (by omega)]; simp), rfl⟩
  · go_enter Tryz.func64, Tryz.ntmps64
    go_wp2
    go_ret
    exact ⟨Cd.ret_bool (by rw [HE.out, decide_eq_false (p := a ≤ n) (by omega)]; simp), rfl⟩
theorem ron_any (r : Fl.R) (d : Int) (w : World) (hw : Fl.Wf r) : Calls Tryz.prog 51 #[Fl.fv r, .int .i64 d] w fun e w' => e = .returned (.bool (Fl.on r.f d)) ∧ Below w.heap.size w w' := by
  have d0 := hw.d0
  have d1 := hw.d1
  clear hw
  by_cases h : 0 ≤ d ∧ d < 366
  · obtain ⟨h1, h2⟩ := h
    have HN := Lib.hid (Fl.on_yes (f := r.f) h1 h2)
    have HW := Lib.hid (fun w => rweekday_yes d w h1 h2)
    obtain ⟨⟨car, num, frm, to, days, dep, arr, cls, plan⟩, A, cap⟩ := r
    unfold Fl.fv
    simp only at HN d0 d1 ⊢
    have hbe := (Below.refl w.heap.size w).alloc (Nat.le_refl _) (.cells #[.string car, .int .i64 num, .string frm, .string to, .int .u8 days, .int .i64 dep, .int .i64 arr, .slice A cls.length cap, .int .i64 plan] 70)
    generalize Fl.on _ d = q at *
    rcases Fl.seven (d := d) with h7 | h7 | h7 | h7 | h7 | h7 | h7
    all_goals rw [h7] at HN HW
    all_goals clear h7 h1 h2
    all_goals go_enter Tryz.func51, Tryz.ntmps51
    all_goals go_wp2_with (go_at_call 79; refine (HW.out _).mono ?_; rintro e w' ⟨rfl, rfl⟩)
    all_goals refine wp_loop_rounds 7 ?_
    all_goals repeat (rw [rounds_succ]; go_wp2)
    all_goals go_ret
    all_goals exact ⟨Cd.ret_bool (by (rw [HN.out]; first | rfl | (simp; done) | (simp; rfl))), hbe⟩
  · have HN := Lib.hid (Fl.on_no (f := r.f) h)
    have HW := Lib.hid (fun w => rweekday_no d w h)
    clear h
    obtain ⟨⟨car, num, frm, to, days, dep, arr, cls, plan⟩, A, cap⟩ := r
    unfold Fl.fv
    have hbe := (Below.refl w.heap.size w).alloc (Nat.le_refl _) (.cells #[.string car, .int .i64 num, .string frm, .string to, .int .u8 days, .int .i64 dep, .int .i64 arr, .slice A cls.length cap, .int .i64 plan] 70)
    go_enter Tryz.func51, Tryz.ntmps51
    go_wp2_with (go_at_call 79; refine (HW.out _).mono ?_; rintro e w' ⟨rfl, rfl⟩)
    refine wp_loop_rounds 1 ?_
    repeat (rw [rounds_succ]; go_wp2)
    go_ret
    exact ⟨Cd.ret_bool HN.out.symm, hbe⟩
end Go.Proofs.YtfodabbmjggieaaGreat
namespace Go.Proofs.YtfodabbmjggieaaGreat
open Go.RowKit
set_option linter.unusedVariables false

namespace Fl
/-- Classes as cells. -/
def cc (l : List (Int × Int)) : List Value := l.flatMap fun p => [.int .u8 p.1, .int .i64 p.2]
theorem cc_nil : cc [] = [] := rfl
theorem cc_cons (p : Int × Int) (l : List (Int × Int)) : cc (p :: l) = .int .u8 p.1 :: .int .i64 p.2 :: cc l := rfl
theorem cc_len : ∀ l : List (Int × Int), (cc l).length = l.length * 2
  | [] => rfl
  | p :: l => by rw [cc_cons, List.length_cons, List.length_cons, cc_len l, List.length_cons]; omega
theorem cc_get : ∀ (l : List (Int × Int)) (j : Nat) (hj : j < l.length), (cc l)[j * 2]? = some (.int .u8 l[j].1) ∧ (cc l)[j * 2 + 1]? = some (.int .i64 l[j].2)
  | p :: l, 0, _ => ⟨rfl, rfl⟩
  | p :: l, j + 1, hj => by
    have h := cc_get l j (by simpa using hj)
    rw [cc_cons, show (j + 1) * 2 = j * 2 + 2 by omega, show j * 2 + 2 + 1 = (j * 2 + 1) + 2 by omega]
    simpa using h
theorem cc_one (l : List (Int × Int)) : ∀ u ∈ cc l, u.oneCell' = true := by
  intro u hu
  obtain ⟨p, _, h⟩ := List.mem_flatMap.1 hu
  simp at h
  rcases h with rfl | rfl <;> rfl
/-- Classes in one new block. -/
def CNew (w : World) (B0 B : Nat) (A : Option Addr) (l : List (Int × Int)) : Prop :=
  0 < l.length → ∃ b cur, A = some ⟨b, 0, none⟩ ∧ B0 ≤ b ∧ b < B ∧ w.heap[b]? = some (.cells cur 67 (0, 0)) ∧ cur.toList.take (l.length * 2) = cc l
theorem CNew.cls {w : World} {B0 B : Nat} {A : Option Addr} {l : List (Int × Int)} (h : CNew w B0 B A l) : Cls w B A l := fun hl => by
  obtain ⟨b, cur, e, _, hB, hh, htk⟩ := h hl
  refine ⟨b, 0, e, hB, fun j hj => ?_⟩
  obtain ⟨g1, g2⟩ := cc_get l j hj
  rw [← htk, List.getElem?_take_of_lt (by omega)] at g1 g2
  rw [show 0 + j * 2 = j * 2 by omega]
  exact ⟨(cell_of_row _ _ _ _ _ _ hh).trans (by simpa using g1), (cell_of_row _ _ _ _ _ _ hh).trans (by simpa using g2)⟩
theorem CNew.kept {w w' : World} {B0 B : Nat} {A : Option Addr} {l : List (Int × Int)} (h : CNew w B0 B A l) (hb : ∀ k cur, B0 ≤ k → k < B → w.heap[k]? = some (.cells cur 67 (0, 0)) → w'.heap[k]? = w.heap[k]?) : CNew w' B0 B A l := fun hl => by
  obtain ⟨b, cur, e, h0, hB, hh, htk⟩ := h hl
  exact ⟨b, cur, e, h0, hB, (hb b cur h0 hB hh).trans hh, htk⟩
theorem CNew.below {w w' : World} {B0 B : Nat} {A : Option Addr} {l : List (Int × Int)} (h : CNew w B0 B A l) (hb : Below B w w') : CNew w' B0 B A l := h.kept fun k _ _ hk _ => hb.block k hk
theorem CNew.more {w : World} {B0 B B0' B' : Nat} {A : Option Addr} {l : List (Int × Int)} (h : CNew w B0 B A l) (h0 : B0' ≤ B0) (hB : B ≤ B') : CNew w B0' B' A l := fun hl => by
  obtain ⟨b, cur, e, h1, h2, hc⟩ := h hl
  exact ⟨b, cur, e, by omega, by omega, hc⟩
theorem Cls.cells {w : World} {B b off : Nat} {A : Option Addr} {l : List (Int × Int)} (h : Cls w B A l) (e : A = some ⟨b, off, none⟩) : ∀ j u, (cc l)[j]? = some u → w.cell? ⟨b, off + j, none⟩ = some u := fun j u hu => by
  have hj : j < l.length * 2 := by rw [← cc_len]; exact (List.getElem?_eq_some_iff.1 hu).1
  obtain ⟨b', off', e', _, hc⟩ := h (by omega)
  rw [e] at e'
  injection e' with e'
  injection e' with e1 e2 e3
  subst e1 e2
  obtain ⟨g1, g2⟩ := cc_get l (j / 2) (by omega)
  obtain ⟨k1, k2⟩ := hc (j / 2) (by omega)
  rcases (show j = j / 2 * 2 ∨ j = j / 2 * 2 + 1 by omega) with hq | hq
  · rw [hq] at hu ⊢
    rw [g1] at hu
    injection hu with hu
    subst hu
    exact k1
  · rw [hq] at hu ⊢
    rw [g2] at hu
    injection hu with hu
    subst hu
    exact k2
end Fl
namespace Fl
theorem uF : Tryz.prog.underlying 70 = some ((Tryz.prog.underlying 70).getD .bool) := by kernel_rfl
theorem rF : ((Tryz.prog.underlying 70).getD .bool).isRow = true := by kernel_rfl
theorem iF : (Tryz.prog.info? 70).map (·.size) = some 9 := by kernel_rfl
theorem iC : (Tryz.prog.info? 68).map (·.size) = some 1 := by kernel_rfl
def r0 : R := ⟨default, none, 0⟩
theorem zF (w : World) : (zeroValue 70).run Tryz.prog w = .ok (.agg (enc r0).toArray) w := by kernel_rfl
theorem enc_set (f : F) (A A' : Option Addr) (c c' : Nat) : (enc ⟨f, A, c⟩).set 7 (.slice A' f.cls.length c') = enc ⟨f, A', c'⟩ := rfl
end Fl
namespace Fl
/-- A slice of flights. -/
structure Fls (w : World) (B : Nat) (A : Option Addr) (rs : List R) : Prop where
  row : 0 < rs.length → ∃ b off, A = some ⟨b, off, none⟩ ∧ b < B ∧ ∀ j (hj : j < rs.length), w.rangeAt b (off + j * 9) (enc rs[j])
  cls : ∀ r ∈ rs, Cls w B r.A r.f.cls
  wf : ∀ r ∈ rs, Wf r
theorem Fls.below {w w' : World} {B B' : Nat} {A : Option Addr} {rs : List R} (h : Fls w B A rs) (hb : Below B' w w') (hB : B ≤ B') : Fls w' B A rs where
  row hl := by
    obtain ⟨b, off, e, hb', hc⟩ := h.row hl
    exact ⟨b, off, e, hb', fun j hj i v hv => (hb.cell (p := ⟨b, _, none⟩) (show b < B' by omega)).trans (hc j hj i v hv)⟩
  cls r hr := (h.cls r hr).below hb hB
  wf := h.wf
def flat (rs : List R) : List Value := rs.flatMap enc
theorem flat_len : ∀ rs : List R, (flat rs).length = rs.length * 9
  | [] => rfl
  | r :: rs => by rw [flat, List.flatMap_cons, List.length_append, enc_len, ← flat, flat_len rs, List.length_cons]; omega
theorem flat_append (a b : List R) : flat (a ++ b) = flat a ++ flat b := by unfold flat; exact List.flatMap_append
theorem flat_one (r : R) : flat [r] = enc r := by simp [flat]
theorem flat_get : ∀ (rs : List R) (j : Nat) (hj : j < rs.length) (i : Nat) (hi : i < 9), (flat rs)[j * 9 + i]? = (enc rs[j])[i]?
  | r :: rs, 0, _, i, hi => by
    rw [flat, List.flatMap_cons, Nat.zero_mul, Nat.zero_add, List.getElem?_append_left (by rw [enc_len]; exact hi)]
    rfl
  | r :: rs, j + 1, hj, i, hi => by
    rw [flat, List.flatMap_cons, List.getElem?_append_right (by rw [enc_len]; omega), enc_len, ← flat, show (j + 1) * 9 + i - 9 = j * 9 + i by omega, flat_get rs j (by simpa using hj) i hi]
    rfl
/-- A slice of flights of the call's own. -/
structure Own (w : World) (base : Nat) (v : Value) (rs : List R) : Prop where
  row : w.ownsRow base 70 9 v rs.length (flat rs)
  cls : ∀ r ∈ rs, CNew w base w.heap.size r.A r.f.cls
  wf : ∀ r ∈ rs, Wf r
theorem Own.fls {w : World} {base : Nat} {v : Value} {rs : List R} (h : Own w base v rs) : ∃ A cap, v = .slice A rs.length cap ∧ Fls w w.heap.size A rs := by
  obtain ⟨_, ⟨hv, h0⟩ | ⟨g, cap, cur, hv, hg, hh, hcap, _, hsz, htk⟩⟩ := h.row
  · have := List.eq_nil_of_length_eq_zero h0
    subst this
    exact ⟨none, 0, hv, ⟨fun h => absurd h (by decide), by simp, by simp⟩⟩
  · refine ⟨some ⟨g, 0, none⟩, cap, hv, ⟨fun hl => ⟨g, 0, rfl, Rw.lt_of_some hh, fun j hj i x hx => ?_⟩, fun r hr => (h.cls r hr).cls, h.wf⟩⟩
    have hi : i < 9 := by have := (List.getElem?_eq_some_iff.1 hx).1; rwa [enc_len] at this
    have hq := flat_get rs j hj i hi
    rw [← htk, List.getElem?_take_of_lt (by omega), hx] at hq
    rw [cell_of_row _ _ _ _ _ _ hh, show 0 + j * 9 + i = j * 9 + i by omega]
    simpa using hq
theorem Own.below {w w' : World} {base : Nat} {v : Value} {rs : List R} (h : Own w base v rs) (hb : Below w.heap.size w w') : Own w' base v rs where
  row := by
    obtain ⟨h1, h2 | ⟨g, cap, cur, hv, hg, hh, h3⟩⟩ := h.row
    · exact ⟨h1, .inl h2⟩
    · exact ⟨h1, .inr ⟨g, cap, cur, hv, hg, (hb.block g (Rw.lt_of_some hh)).trans hh, h3⟩⟩
  cls r hr := ((h.cls r hr).below hb).more (Nat.le_refl _) hb.size
  wf := h.wf
end Fl
end Go.Proofs.YtfodabbmjggieaaGreat
namespace Go.Proofs.YtfodabbmjggieaaGreat
open Go.RowKit
set_option linter.unusedVariables false

namespace Fl
/-- Has a flight this key? -/
def isK (f : F) (car : ByteArray) (num : Int) : Bool := decide (f.car = car) && decide (f.num = num)
/-- What Find answers of some flights. -/
def FindIs (w : World) (rs : List R) (car : ByteArray) (num : Int) (e : Ending) (w' : World) : Prop :=
  ((∃ (j : Nat) (hj : j < rs.length), isK rs[j].f car num = true ∧ (∀ i, i < j → ∀ hi : i < rs.length, isK rs[i].f car num = false) ∧ e = .returned (.tuple #[fv rs[j], .bool true])) ∨
   ((∀ r ∈ rs, isK r.f car num = false) ∧ e = .returned (.tuple #[fv r0, .bool false]))) ∧ Below w.heap.size w w'
theorem enc_cell {w : World} {b o : Nat} {r : R} (h : w.rangeAt b o (enc r)) : w.cell? ⟨b, o, none⟩ = some (.string r.f.car) ∧ w.cell? ⟨b, o + 1, none⟩ = some (.int .i64 r.f.num) := ⟨h 0 _ rfl, h 1 _ rfl⟩
theorem isK_no {f : F} {car : ByteArray} {num : Int} (h : isK f car num = false) : (f.car ≠ car) ∨ (f.car = car ∧ f.num ≠ num) := by
  unfold isK at h
  by_cases h1 : f.car = car
  · right
    refine ⟨h1, fun h2 => ?_⟩
    rw [decide_eq_true h1, decide_eq_true h2] at h
    cases h
  · exact .inl h1
theorem isK_yes {f : F} {car : ByteArray} {num : Int} (h : isK f car num = true) : f.car = car ∧ f.num = num := by
  simpa [isK] using h
end Fl
set_option maxHeartbeats 1000000 in
theorem rfind_any (A : Option Addr) (rs : List Fl.R) (cap B : Nat) (car : ByteArray) (num : Int) (w : World) (h : Fl.Fls w B A rs) (hB : B ≤ w.heap.size) (hl : rs.length ≤ 1000000) :
    Calls Tryz.prog 32 #[.slice A rs.length cap, .agg #[.string car, .int .i64 num]] w (Fl.FindIs w rs car num) := by
  have HF := Lib.hid h
  clear h
  obtain ⟨w1, ew1⟩ : ∃ x, x = w.alloc (.cells #[.string car, .int .i64 num] 33) := ⟨_, rfl⟩
  have hb1 : Below w.heap.size w w1 := by rw [ew1]; exact (Below.refl _ _).alloc (Nat.le_refl _) _
  have hz1 : w1.heap.size = w.heap.size + 1 := by rw [ew1]; simp
  have K1 : Rw.Blk w1 w.heap.size 33 [.string car, .int .i64 num] := by rw [ew1]; exact heap_alloc_new w _
  go_enter Tryz.func32, Tryz.ntmps32
  go_wp2_with (first
    | (refine Rw.wpList_alloc rfl 70 rfl (Fl.enc Fl.r0) Fl.zF ?_; intro w2 K2 hb2 hz2))
  rw [← ew1] at K2 hb2 hz2
  rw [hz1] at K2 hz2
  have hz3 : w.heap.size + 1 < w2.heap.size := by omega
  clear hz1 hz2
  have HK1 := Lib.hid (K1.below' hb2)
  have HK2 := Lib.hid K2
  have HB2 := Lib.hid (hb1.trans (hb2.mono hb1.size))
  clear K1 K2 hb1 hb2 ew1
  go_loopw [6] (fun i wr => ∃ k : Nat, k ≤ rs.length ∧ i = .int .i64 k ∧ Hid (∀ i, i < k → ∀ hi : i < rs.length, Fl.isK rs[i].f car num = false) ∧ Below w2.heap.size w2 wr) (fun i _ => rs.length - (intOf i).toNat)
  case atStart => exact ⟨0, by omega, rfl, (fun j hj => absurd hj (by omega)), Below.refl _ _⟩
  case round =>
    obtain ⟨wx, ewx⟩ : ∃ x, x = wr := ⟨_, rfl⟩
    subst ewx
    obtain ⟨k, hk, rfl, HNo, hbr⟩ := hrel
    by_cases hlt : k < rs.length
    · obtain ⟨b, off, hA, hbB, hrow⟩ := HF.out.row (by omega)
      subst hA
      have hw2 := HB2.out.size
      have HR : Hid (wx.rangeAt b (off + k * 9) (Fl.enc rs[k])) := fun j v hv => (hbr.cell (p := ⟨b, _, none⟩) (show b < w2.heap.size by omega)).trans ((HB2.out.cell (p := ⟨b, _, none⟩) (show b < w.heap.size by omega)).trans (hrow k hlt j v hv))
      have HKx := HK1.out.below' hbr
      have HKr := Lib.hid (HK2.out.below' hbr)
      have q0 : ∀ q, (wx.drewN q).cell? ⟨w.heap.size, 0, none⟩ = some (.string car) := fun q => (HKx.cell 0).trans rfl
      have q1 : ∀ q, (wx.drewN q).cell? ⟨w.heap.size, 1, none⟩ = some (.int .i64 num) := fun q => (HKx.cell 1).trans rfl
      have c0 : ∀ q, (wx.drewN q).cell? ⟨b, off + k * 9, none⟩ = some (.string rs[k].f.car) := fun q => (Fl.enc_cell HR.out).1
      have c1 : ∀ q, (wx.drewN q).cell? ⟨b, off + k * 9 + 1, none⟩ = some (.int .i64 rs[k].f.num) := fun q => (Fl.enc_cell HR.out).2
      have HST : Hid (Fl.isK rs[k].f car num = false → ∀ i, i < k + 1 → ∀ hi : i < rs.length, Fl.isK rs[i].f car num = false) := fun e i hi hi2 => by
        rcases Nat.lt_or_ge i k with h | h
        · exact HNo.out i h hi2
        · have : i = k := by omega
          subst this; exact e
      have HYE : Hid (Fl.isK rs[k].f car num = true → ∀ w', Below w.heap.size w w' → Fl.FindIs w rs car num (.returned (.tuple #[Fl.fv rs[k], .bool true])) w') := fun e w' hb => ⟨.inl ⟨k, hlt, e, HNo.out, rfl⟩, hb⟩
      have hbq := Lib.hid (HB2.out.trans (hbr.mono HB2.out.size))
      generalize hr : rs[k] = r at *
      clear hr hrow HKx
      cases hK : Fl.isK r.f car num with
      | false =>
        have HN2 := Lib.hid (HST.out hK)
        rcases Fl.isK_no hK with h1 | ⟨h1, h2⟩
        · have s1 := Fl.str_ne h1
          clear hK h1
          go_wp2
          go_quiet (fail)
          go_wp2
          go_roundw
          case rel => exact ⟨k + 1, by omega, by go_num, HN2, Fl.below_drewN hbr _⟩
          case measure => simp [intOf]; omega
        · have s1 := Fl.str_eq h1
          have s2 : (r.f.num == num) = false := by simp [h2]
          clear hK h1 h2
          go_wp2
          go_quiet (fail)
          go_wp2
          go_roundw
          case rel => exact ⟨k + 1, by omega, by go_num, HN2, Fl.below_drewN hbr _⟩
          case measure => simp [intOf]; omega
      | true =>
        obtain ⟨h1, h2⟩ := Fl.isK_yes hK
        have HN2 := Lib.hid (HYE.out hK)
        have s1 := Fl.str_eq h1
        have s2 : (r.f.num == num) = true := by simp [h2]
        clear hK h1 h2
        go_wp2
        go_quiet (fail)
        obtain ⟨wy, ewy⟩ : ∃ x, x = wx.drewN nq := ⟨_, rfl⟩
        have hby : Below wx.heap.size wx wy := by rw [ewy]; exact Fl.below_drewN (Below.refl _ _) _
        have HRy : Hid (wy.rangeAt b (off + k * 9) (Fl.enc r)) := by rw [ewy]; exact HR.out
        have HKy : Hid (Rw.Blk wy (w.heap.size + 1) 70 (Fl.enc Fl.r0)) := by rw [ewy]; exact HKr.out
        rw [← ewy]
        clear ewy c0 c1 q0 q1
        go_wp2_with (first
          | (refine wpList_load_mid rfl 70 _ rfl b (off + k * 9) rfl (Fl.enc r) _ HRy.out Fl.uF Fl.rF Fl.iF ?_)
          | (refine Rw.wpList_store_whole rfl 70 _ _ rfl (w.heap.size + 1) rfl (Fl.enc r) rfl _ _ HKy.out Fl.iF rfl (Fl.enc_one _) ?_; intro w5 K5 f5))
        have hc5 := K5.cell
        have hb5 : Below w.heap.size w w5 := (hbq.out.trans (hby.mono hbq.out.size)).trans (f5.below (B := w.heap.size) (Nat.le_trans hbq.out.size hby.size) (fun k hk => by have : k = w.heap.size + 1 := hk; omega))
        refine bodyPost_ret (v := .tuple #[Fl.fv r, .bool true]) ?_ rfl (HN2.out _ hb5)
        simp [results, Tryz.results32, go_sem, hc5, Fl.enc, Fl.fv]
    · have HAL : Hid (∀ r ∈ rs, Fl.isK r.f car num = false) := fun r hr => by
        obtain ⟨j, hj, rfl⟩ := List.getElem_of_mem hr
        exact HNo.out j (by omega) hj
      have HKr := Lib.hid (HK2.out.below' hbr)
      have hbq := Lib.hid (HB2.out.trans (hbr.mono HB2.out.size))
      go_wp2_with (first
          | (refine Rw.wpList_store_whole rfl 70 _ _ rfl (w.heap.size + 1) rfl (Fl.enc Fl.r0) rfl _ _ HKr.out Fl.iF rfl (Fl.enc_one _) ?_; intro w5 K5 f5))
      have hc5 := K5.cell
      have hb5 : Below w.heap.size w w5 := hbq.out.trans (f5.below (B := w.heap.size) hbq.out.size (fun k hk => by have : k = w.heap.size + 1 := hk; omega))
      refine bodyPost_ret (v := .tuple #[Fl.fv Fl.r0, .bool false]) ?_ rfl ⟨.inr ⟨HAL.out, rfl⟩, hb5⟩
      simp [results, Tryz.results32, go_sem, hc5, Fl.enc, Fl.fv]
end Go.Proofs.YtfodabbmjggieaaGreat
