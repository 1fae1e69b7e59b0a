/- Contracts of City, Carrier, Agent, Person, Locator and of the document's. -/
import Derived.Test.YtmcekicaigbccaaGreatCdLoops
namespace Go.Proofs.YtmcekicaigbccaaGreat
open Go.RowKit
set_option linter.unusedVariables false

namespace Cd
def city (s : ByteArray) : Bool := decide (s.size = 3) && (bs s).all isL
def locator (s : ByteArray) : Bool := decide (s.size = 6) && (bs s).all isL
def person (s : ByteArray) : Bool := decide (0 < s.size) && decide (s.size ≤ 16) && (bs s).all isL
def carrier (s : ByteArray) : Bool := decide (s.size = 2) && (bs s).all isM && (bs s).any isL
def agent (s : ByteArray) : Bool := decide (2 ≤ s.size) && decide (s.size ≤ 6) && isL (bt s 0) && (bs s).all isM
theorem cnt_all (l : List Int) : (cnt l = l.length) ↔ l.all isL = true := by
  unfold cnt; rw [List.countP_eq_length, List.all_eq_true]
theorem cnt_eq (s : ByteArray) (n : Int) (h : (s.size : Int) = n) : (((cnt (bs s) : Nat) : Int) == n) = (bs s).all isL := by
  have := cnt_all (bs s)
  rw [length_bs] at this
  cases e : (bs s).all isL with
  | true => rw [beq_iff_eq]; have := this.2 e; omega
  | false =>
    rw [beq_eq_false_iff_ne]
    intro h2
    have h3 := this.1 (by omega)
    rw [e] at h3
    cases h3
theorem cnt_pos (l : List Int) : decide (0 < ((cnt l : Nat) : Int)) = l.any isL := by
  unfold cnt
  have h : 0 < l.countP isL ↔ l.any isL = true := by rw [List.countP_pos_iff, List.any_eq_true]
  cases e : l.any isL with
  | true => have := h.2 e; rw [decide_eq_true]; omega
  | false =>
    rw [decide_eq_false]
    intro h2
    have h3 := h.1 (by omega)
    rw [e] at h3
    cases h3
theorem two (s : ByteArray) (h : s.size = 2) : bs s = [bt s 0, bt s 1] := by
  have h0 := take_succ s 0 (by omega)
  have h1 := take_succ s 1 (by omega)
  rw [h0] at h1
  have := take_all s
  rw [h, h1] at this
  rw [← this]
  rfl
theorem all_L_M {l : List Int} (h : l.all isL = true) : l.all isM = true := by
  rw [List.all_eq_true] at *
  intro c hc
  simp [isM, h c hc]
end Cd

theorem city_any (s : ByteArray) (w : World) (hs : s.size ≤ 9223372036854775807) :
    Calls Tryz.prog 91 #[.string s] w fun e w' => e = .returned (.bool (Cd.city s)) ∧ w = w' := by
  by_cases h : s.size = 3
  · have t1 : ((s.size : Int) == 3) = true := beq_iff_eq.2 (by omega)
    have hs2 : s.size ≤ 9223372036854775807 := by omega
    have HN : Hid (Cd.city s = (Cd.bs s).all Cd.isL) := show _ = _ by rw [Cd.city, decide_eq_true h]; rfl
    clear h
    go_enter Tryz.func91, Tryz.ntmps91
    go_wp2_with (go_at_call 121; refine (letters_any _ _ hs2).mono ?_; rintro e w' ⟨rfl, rfl⟩)
    go_ret
    exact ⟨Cd.ret_bool HN.out.symm, rfl⟩
  · have t1 : ((s.size : Int) == 3) = false := beq_eq_false_iff_ne.2 (by omega)
    have HN : Hid (Cd.city s = false) := show _ = _ by rw [Cd.city, decide_eq_false h]; rfl
    clear h
    go_enter Tryz.func91, Tryz.ntmps91
    go_wp2
    go_ret
    exact ⟨Cd.ret_bool HN.out.symm, rfl⟩
theorem rcity_any (s : ByteArray) (w : World) (hs : s.size ≤ 9223372036854775807) :
    Calls Tryz.prog 80 #[.string s] w fun e w' => e = .returned (.bool (Cd.city s)) ∧ w = w' := by
  by_cases h : s.size = 3
  · have t1 : ((s.size : Int) == 3) = true := beq_iff_eq.2 (by omega)
    have hs2 : s.size ≤ 9223372036854775807 := by omega
    have HN : Hid (Cd.city s = (((Cd.cnt (Cd.bs s) : Nat) : Int) == 3)) := show _ = _ by rw [Cd.city, decide_eq_true h, Cd.cnt_eq s 3 (by omega)]; rfl
    clear h
    go_enter Tryz.func80, Tryz.ntmps80
    go_wp2_with (go_at_call 107; refine (rletters_any _ _ hs2).mono ?_; rintro e w' ⟨rfl, rfl⟩)
    go_ret
    exact ⟨Cd.ret_bool HN.out.symm, rfl⟩
  · have t1 : ((s.size : Int) == 3) = false := beq_eq_false_iff_ne.2 (by omega)
    have HN : Hid (Cd.city s = false) := show _ = _ by rw [Cd.city, decide_eq_false h]; rfl
    clear h
    go_enter Tryz.func80, Tryz.ntmps80
    go_wp2
    go_ret
    exact ⟨Cd.ret_bool HN.out.symm, rfl⟩
end Go.Proofs.YtmcekicaigbccaaGreat
