/- Contracts of City, Carrier, Agent, Person, Locator and of the document's. -/
import Derived.Test.YtlghiaocakokiaaRfree
namespace Go.Proofs.Ytlghiaocakokiaa
open Go.RowKit
set_option linter.unusedVariables false

namespace Cd
def city (s : ByteArray) : Bool := decide (s.size = 3) && (bs s).all isL
def locator (s : ByteArray) : Bool := decide (s.size = 6) && (bs s).all isL
def person (s : ByteArray) : Bool := decide (0 < s.size) && decide (s.size ≤ 16) && (bs s).all isL
def carrier (s : ByteArray) : Bool := decide (s.size = 2) && (bs s).all isM && (bs s).any isL
def agent (s : ByteArray) : Bool := decide (2 ≤ s.size) && decide (s.size ≤ 6) && isL (bt s 0) && (bs s).all isM
theorem cnt_all (l : List Int) : (cnt l = l.length) ↔ l.all isL = true := by
  unfold cnt; rw [List.countP_eq_length, List.all_eq_true]
theorem cnt_eq (s : ByteArray) (n : Int) (h : (s.size : Int) = n) : (((cnt (bs s) : Nat) : Int) == n) = (bs s).all isL := by
  have := cnt_all (bs s)
  rw [length_bs] at this
  cases e : (bs s).all isL with
  | true => rw [beq_iff_eq]; have := this.2 e; omega
  | false =>
    rw [beq_eq_false_iff_ne]
    intro h2
    have h3 := this.1 (by omega)
    rw [e] at h3
    cases h3
theorem cnt_pos (l : List Int) : decide (0 < ((cnt l : Nat) : Int)) = l.any isL := by
  unfold cnt
  have h : 0 < l.countP isL ↔ l.any isL = true := by rw [List.countP_pos_iff, List.any_eq_true]
  cases e : l.any isL with
  | true => have := h.2 e; rw [decide_eq_true]; omega
  | false =>
    rw [decide_eq_false]
    intro h2
    have h3 := h.1 (by omega)
    rw [e] at h3
    cases h3
theorem two (s : ByteArray) (h : s.size = 2) : bs s = [bt s 0, bt s 1] := by
  have h0 := take_succ s 0 (by omega)
  have h1 := take_succ s 1 (by omega)
  rw [h0] at h1
  have := take_all s
  rw [h, h1] at this
  rw [← this]
  rfl
theorem all_L_M {l : List Int} (h : l.all isL = true) : l.all isM = true := by
  rw [List.all_eq_true] at *
  intro c hc
  simp [isM, h c hc]
end Cd

theorem city_any (s : ByteArray) (w : World) (hs : s.size ≤ 140737488355328) :
    Calls Try.prog 9 #[.string s] w fun e w' => e = .returned (.bool (Cd.city s)) ∧ w = w' := by
  by_cases h : s.size = 3
  · have t1 : ((s.size : Int) == 3) = true := beq_iff_eq.2 (by omega)
    have HN : Hid (Cd.city s = (Cd.bs s).all Cd.isL) := show _ = _ by rw [Cd.city, decide_eq_true h]; rfl
    clear h
    go_enter Try.func9, Try.ntmps9
    go_wp2_with (go_at_call 25; refine (letters_any _ _ hs).mono ?_; rintro e w' ⟨rfl, rfl⟩)
    go_ret
    exact ⟨Cd.ret_bool HN.out.symm, rfl⟩
  · have t1 : ((s.size : Int) == 3) = false := beq_eq_false_iff_ne.2 (by omega)
    have HN : Hid (Cd.city s = false) := show _ = _ by rw [Cd.city, decide_eq_false h]; rfl
    clear h
    go_enter Try.func9, Try.ntmps9
    go_wp2
    go_ret
    exact ⟨Cd.ret_bool HN.out.symm, rfl⟩
theorem locator_any (s : ByteArray) (w : World) (hs : s.size ≤ 140737488355328) :
    Calls Try.prog 17 #[.string s] w fun e w' => e = .returned (.bool (Cd.locator s)) ∧ w = w' := by
  by_cases h : s.size = 6
  · have t1 : ((s.size : Int) == 6) = true := beq_iff_eq.2 (by omega)
    have HN : Hid (Cd.locator s = (Cd.bs s).all Cd.isL) := show _ = _ by rw [Cd.locator, decide_eq_true h]; rfl
    clear h
    go_enter Try.func17, Try.ntmps17
    go_wp2_with (go_at_call 25; refine (letters_any _ _ hs).mono ?_; rintro e w' ⟨rfl, rfl⟩)
    go_ret
    exact ⟨Cd.ret_bool HN.out.symm, rfl⟩
  · have t1 : ((s.size : Int) == 6) = false := beq_eq_false_iff_ne.2 (by omega)
    have HN : Hid (Cd.locator s = false) := show _ = _ by rw [Cd.locator, decide_eq_false h]; rfl
    clear h
    go_enter Try.func17, Try.ntmps17
    go_wp2
    go_ret
    exact ⟨Cd.ret_bool HN.out.symm, rfl⟩
theorem rcity_any (s : ByteArray) (w : World) (hs : s.size ≤ 140737488355328) :
    Calls Try.prog 10 #[.string s] w fun e w' => e = .returned (.bool (Cd.city s)) ∧ w = w' := by
  by_cases h : s.size = 3
  · have t1 : ((s.size : Int) == 3) = true := beq_iff_eq.2 (by omega)
    have HN : Hid (Cd.city s = (((Cd.cnt (Cd.bs s) : Nat) : Int) == 3)) := show _ = _ by rw [Cd.city, decide_eq_true h, Cd.cnt_eq s 3 (by omega)]; rfl
    clear h
    go_enter Try.func10, Try.ntmps10
    go_wp2_with (go_at_call 26; refine (rletters_any _ _ hs).mono ?_; rintro e w' ⟨rfl, rfl⟩)
    go_ret
    exact ⟨Cd.ret_bool HN.out.symm, rfl⟩
  · have t1 : ((s.size : Int) == 3) = false := beq_eq_false_iff_ne.2 (by omega)
    have HN : Hid (Cd.city s = false) := show _ = _ by rw [Cd.city, decide_eq_false h]; rfl
    clear h
    go_enter Try.func10, Try.ntmps10
    go_wp2
    go_ret
    exact ⟨Cd.ret_bool HN.out.symm, rfl⟩
theorem rlocator_any (s : ByteArray) (w : World) (hs : s.size ≤ 140737488355328) :
    Calls Try.prog 18 #[.string s] w fun e w' => e = .returned (.bool (Cd.locator s)) ∧ w = w' := by
  by_cases h : s.size = 6
  · have t1 : ((s.size : Int) == 6) = true := beq_iff_eq.2 (by omega)
    have HN : Hid (Cd.locator s = (((Cd.cnt (Cd.bs s) : Nat) : Int) == 6)) := show _ = _ by rw [Cd.locator, decide_eq_true h, Cd.cnt_eq s 6 (by omega)]; rfl
    clear h
    go_enter Try.func18, Try.ntmps18
    go_wp2_with (go_at_call 26; refine (rletters_any _ _ hs).mono ?_; rintro e w' ⟨rfl, rfl⟩)
    go_ret
    exact ⟨Cd.ret_bool HN.out.symm, rfl⟩
  · have t1 : ((s.size : Int) == 6) = false := beq_eq_false_iff_ne.2 (by omega)
    have HN : Hid (Cd.locator s = false) := show _ = _ by rw [Cd.locator, decide_eq_false h]; rfl
    clear h
    go_enter Try.func18, Try.ntmps18
    go_wp2
    go_ret
    exact ⟨Cd.ret_bool HN.out.symm, rfl⟩
theorem person_any (s : ByteArray) (w : World) (hs : s.size ≤ 140737488355328) :
    Calls Try.prog 15 #[.string s] w fun e w' => e = .returned (.bool (Cd.person s)) ∧ w = w' := by
  rcases (show s.size < 1 ∨ (0 < s.size ∧ s.size ≤ 16) ∨ (0 < s.size ∧ 16 < s.size) by omega) with h | ⟨h, h2⟩ | ⟨h, h2⟩
  · have HN : Hid (Cd.person s = false) := show _ = _ by rw [Cd.person, decide_eq_false (p := 0 < s.size) (by omega)]; rfl
    go_enter Try.func15, Try.ntmps15
    go_wp2
    go_ret
    exact ⟨Cd.ret_bool HN.out.symm, rfl⟩
  · have HN : Hid (Cd.person s = (Cd.bs s).all Cd.isL) := show _ = _ by rw [Cd.person, decide_eq_true h, decide_eq_true h2]; rfl
    go_enter Try.func15, Try.ntmps15
    go_wp2_with (go_at_call 25; refine (letters_any _ _ hs).mono ?_; rintro e w' ⟨rfl, rfl⟩)
    go_ret
    exact ⟨Cd.ret_bool HN.out.symm, rfl⟩
  · have HN : Hid (Cd.person s = false) := show _ = _ by rw [Cd.person, decide_eq_false (p := s.size ≤ 16) (by omega)]; simp
    go_enter Try.func15, Try.ntmps15
    go_wp2
    go_ret
    exact ⟨Cd.ret_bool HN.out.symm, rfl⟩
theorem rperson_any (s : ByteArray) (w : World) (hs : s.size ≤ 140737488355328) :
    Calls Try.prog 16 #[.string s] w fun e w' => e = .returned (.bool (Cd.person s)) ∧ w = w' := by
  have e0 := Cd.cnt_eq s (s.size : Int) rfl
  have hm := mixed_any s 1 16 w hs
  cases hx : (decide (1 ≤ (s.size : Int)) && decide ((s.size : Int) ≤ 16) && (Cd.bs s).all Cd.isM) with
  | true =>
    rw [hx] at hm
    have HM := Lib.hid hm
    have HN : Hid (Cd.person s = (((Cd.cnt (Cd.bs s) : Nat) : Int) == (s.size : Int))) := show _ = _ by
      simp only [Bool.and_eq_true, decide_eq_true_eq] at hx
      rw [e0, Cd.person, decide_eq_true (p := 0 < s.size) (by omega), decide_eq_true (p := s.size ≤ 16) (by omega)]; rfl
    clear hm hx e0
    go_enter Try.func16, Try.ntmps16
    go_wp2_with (first
      | (go_at_call 29; refine (HM.out).mono ?_; rintro e w' ⟨rfl, rfl⟩)
      | (go_at_call 26; refine (rletters_any _ _ hs).mono ?_; rintro e w' ⟨rfl, rfl⟩))
    go_ret
    exact ⟨Cd.ret_bool HN.out.symm, rfl⟩
  | false =>
    rw [hx] at hm
    have HM := Lib.hid hm
    have HN : Hid (Cd.person s = false) := show _ = _ by
      cases e : Cd.person s with
      | false => rfl
      | true =>
        unfold Cd.person at e
        simp only [Bool.and_eq_true, decide_eq_true_eq] at e
        rw [decide_eq_true (p := 1 ≤ (s.size : Int)) (by omega), decide_eq_true (p := (s.size : Int) ≤ 16) (by omega), Cd.all_L_M e.2] at hx
        cases hx
    clear hm hx e0
    go_enter Try.func16, Try.ntmps16
    go_wp2_with (go_at_call 29; refine (HM.out).mono ?_; rintro e w' ⟨rfl, rfl⟩)
    go_ret
    exact ⟨Cd.ret_bool HN.out.symm, rfl⟩
end Go.Proofs.Ytlghiaocakokiaa
