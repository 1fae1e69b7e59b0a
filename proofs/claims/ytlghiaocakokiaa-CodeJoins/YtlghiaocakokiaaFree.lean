/- Contracts of Free and of the document's Free. -/
import Derived.Test.YtlghiaocakokiaaLoops
namespace Go.Proofs.Ytlghiaocakokiaa
open Go.RowKit
set_option linter.unusedVariables false

namespace Cd
/-- c may stand behind p. -/
def ok (p c : Int) : Bool := isF c && !(c == 32 && p == 32)
/-- Each number may stand behind the one ahead of it, the first behind p. -/
def chn : Int → List Int → Bool
  | _, [] => true
  | p, c :: r => ok p c && chn c r
def lst : Int → List Int → Int
  | p, [] => p
  | _, c :: r => lst c r
def free (l : List Int) : Bool := decide (l.length ≤ 40) && (chn 32 l && (lst 32 l != 32))
theorem chn_append : ∀ (l : List Int) (p : Int) (m : List Int), chn p (l ++ m) = (chn p l && chn (lst p l) m)
  | [], p, m => by simp [chn, lst]
  | c :: r, p, m => by simp [chn, lst, chn_append r, Bool.and_assoc]
theorem lst_append : ∀ (l : List Int) (p : Int) (m : List Int), lst p (l ++ m) = lst (lst p l) m
  | [], p, m => rfl
  | c :: r, p, m => by simp [lst, lst_append r]
theorem chn_step {s : ByteArray} {k : Nat} (h : k < s.size) {p : Int} (hc : chn 32 ((bs s).take k) = true) (hp : lst 32 ((bs s).take k) = p) :
    chn 32 ((bs s).take (k + 1)) = ok p (bt s k) ∧ lst 32 ((bs s).take (k + 1)) = bt s k := by
  rw [take_succ s k h, chn_append, lst_append, hc, hp]
  simp [chn, lst]
theorem chn_no {s : ByteArray} {k : Nat} (h : chn 32 ((bs s).take k) = false) : chn 32 (bs s) = false := by
  rw [← List.take_append_drop k (bs s), chn_append, h]; rfl
theorem free_no {s : ByteArray} {k : Nat} (h : chn 32 ((bs s).take k) = false) : free (bs s) = false := by
  unfold free; rw [chn_no h]; simp
theorem free_long {s : ByteArray} (h : 40 < s.size) : free (bs s) = false := by
  unfold free; rw [length_bs, decide_eq_false (by omega)]; rfl
theorem free_end {s : ByteArray} {p : Int} (h : s.size ≤ 40) (hc : chn 32 (bs s) = true) (hp : lst 32 (bs s) = p) : free (bs s) = (p != 32) := by
  unfold free; rw [length_bs, decide_eq_true h, hc, hp]; rfl
theorem lst_last (l : List Int) (p : Int) (c : Int) : lst p (l ++ [c]) = c := by rw [lst_append]; rfl
theorem take_none (s : ByteArray) : (bs s).take 0 = [] := rfl
end Cd

theorem free_many (s : ByteArray) (w : World) (h : 40 < s.size) :
    Calls Try.prog 19 #[.string s] w fun e w' => e = .returned (.bool (Cd.free (Cd.bs s))) ∧ w = w' := by
  have HN := Lib.hid (Cd.free_long h)
  go_enter Try.func19, Try.ntmps19
  go_wp2
  go_ret
  exact ⟨Cd.ret_bool HN.out.symm, rfl⟩
set_option maxRecDepth 100000 in
theorem free_few (s : ByteArray) (w : World) (hs : s.size ≤ 40) :
    Calls Try.prog 19 #[.string s] w fun e w' => e = .returned (.bool (Cd.free (Cd.bs s))) ∧ w = w' := by
  have hb := Cd.get_bt s
  go_enter Try.func19, Try.ntmps19
  go_wp2
  go_loop [3, 11] (fun q i => ∃ (k : Nat) (p : Int), k ≤ s.size ∧ i = .int .i64 k ∧ q = .int .u8 p ∧ Hid (Cd.chn 32 ((Cd.bs s).take k) = true) ∧ Hid (Cd.lst 32 ((Cd.bs s).take k) = p)) (fun _ i => s.size - (intOf i).toNat)
  case atStart => exact ⟨0, 32, by omega, rfl, rfl, show _ = _ by simp [Cd.chn], show _ = _ by simp [Cd.lst]⟩
  case round =>
    obtain ⟨k, p, hk, rfl, rfl, HK, HP⟩ := hrel
    by_cases hlt : k < s.size
    · obtain ⟨h1, h2⟩ := Cd.chn_step hlt HK.out HP.out
      have HL := Lib.hid h2
      clear h2
      cases hF : Cd.isF (Cd.bt s k) with
      | false =>
        rw [Cd.ok, hF, Bool.false_and] at h1
        have HN := Lib.hid (Cd.free_no h1)
        clear h1
        go_wp2_with (go_at_call 31; refine (freeByte_any _ _).mono ?_; rintro e w' ⟨rfl, rfl⟩)
        go_ret
        exact ⟨Cd.ret_bool HN.out.symm, rfl⟩
      | true =>
        cases hc : (Cd.bt s k == 32) with
        | false =>
          rw [Cd.ok, hF, hc] at h1
          have HC := Lib.hid h1
          clear h1
          go_wp2_with (go_at_call 31; refine (freeByte_any _ _).mono ?_; rintro e w' ⟨rfl, rfl⟩)
          go_round
          case rel => exact ⟨k + 1, _, by omega, by go_num, rfl, HC, HL⟩
          case measure => simp [intOf]; omega
        | true =>
          cases hp : (p == 32) with
          | false =>
            rw [Cd.ok, hF, hc, hp] at h1
            have HC := Lib.hid h1
            clear h1
            go_wp2_with (go_at_call 31; refine (freeByte_any _ _).mono ?_; rintro e w' ⟨rfl, rfl⟩)
            go_round
            case rel => exact ⟨k + 1, _, by omega, by go_num, rfl, HC, HL⟩
            case measure => simp [intOf]; omega
          | true =>
            rw [Cd.ok, hF, hc, hp] at h1
            have HN := Lib.hid (Cd.free_no h1)
            clear h1
            go_wp2_with (go_at_call 31; refine (freeByte_any _ _).mono ?_; rintro e w' ⟨rfl, rfl⟩)
            go_ret
            exact ⟨Cd.ret_bool HN.out.symm, rfl⟩
    · have h0 := HK.out
      have h1 := HP.out
      rw [show k = s.size by omega, Cd.take_all] at h0 h1
      have HN := Lib.hid (Cd.free_end hs h0 h1)
      clear h0 h1
      go_wp2
      go_ret
      exact ⟨Cd.ret_bool HN.out.symm, rfl⟩
theorem free_all (s : ByteArray) (w : World) :
    Calls Try.prog 19 #[.string s] w fun e w' => e = .returned (.bool (Cd.free (Cd.bs s))) ∧ w = w' := by
  rcases Nat.lt_or_ge 40 s.size with h | h
  · exact free_many s w h
  · exact free_few s w h
theorem free_any (s : ByteArray) (w : World) (hs : s.size ≤ 140737488355328) :
    Calls Try.prog 19 #[.string s] w fun e w' => e = .returned (.bool (Cd.free (Cd.bs s))) ∧ w = w' := free_all s w
end Go.Proofs.Ytlghiaocakokiaa
