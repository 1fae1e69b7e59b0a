/- The document's: is a number between two others; does a flight fly on a day. -/
import Derived.Test.YtmcekicaigbccaaGreatFlFly
namespace Go.Proofs.YtmcekicaigbccaaGreat
open Go.RowKit
set_option linter.unusedVariables false

namespace Fl
def inI (n a b : Int) : Bool := decide (a ≤ n) && decide (n ≤ b)
end Fl
theorem in_any (n a b : Int) (w : World) : Calls Tryz.prog 79 #[.int .i64 n, .int .i64 a, .int .i64 b] w fun e w' => e = .returned (.bool (Fl.inI n a b)) ∧ w = w' := by
  have HE : Hid (Fl.inI n a b = (decide (a ≤ n) && decide (n ≤ b))) := show _ = _ by rfl
  generalize Fl.inI n a b = q at *
  by_cases h1 : a ≤ n
  · by_cases h2 : n ≤ b
    · go_enter Tryz.func79, Tryz.ntmps79
      go_wp2
      go_ret
      exact ⟨Cd.ret_bool (by rw [HE.out, decide_eq_true h1, decide_eq_true h2]; rfl), rfl⟩
    · go_enter Tryz.func79, Tryz.ntmps79
      go_wp2
      go_ret
      exact ⟨Cd.ret_bool (by rw [HE.out, decide_eq_false (p := n ≤ b) (by omega)]; simp), rfl⟩
  · go_enter Tryz.func79, Tryz.ntmps79
    go_wp2
    go_ret
    exact ⟨Cd.ret_bool (by rw [HE.out, decide_eq_false (p := a ≤ n) (by omega)]; simp), rfl⟩
theorem ron_any (r : Fl.R) (d : Int) (w : World) (hw : Fl.Wf r) : Calls Tryz.prog 64 #[Fl.fv r, .int .i64 d] w fun e w' => e = .returned (.bool (Fl.on r.f d)) ∧ Below w.heap.size w w' := by
  have d0 := hw.d0
  have d1 := hw.d1
  clear hw
  by_cases h : 0 ≤ d ∧ d < 366
  · obtain ⟨h1, h2⟩ := h
    have HN := Lib.hid (Fl.on_yes (f := r.f) h1 h2)
    have HW := Lib.hid (fun w => rweekday_yes d w h1 h2)
    obtain ⟨⟨car, num, frm, to, days, dep, arr, cls, plan⟩, A, cap⟩ := r
    unfold Fl.fv
    simp only at HN d0 d1 ⊢
    have hbe := (Below.refl w.heap.size w).alloc (Nat.le_refl _) (.cells #[.string car, .int .i64 num, .string frm, .string to, .int .u8 days, .int .i64 dep, .int .i64 arr, .slice A cls.length cap, .int .i64 plan] 62)
    generalize Fl.on _ d = q at *
    rcases Fl.seven (d := d) with h7 | h7 | h7 | h7 | h7 | h7 | h7
    all_goals rw [h7] at HN HW
    all_goals clear h7 h1 h2
    all_goals go_enter Tryz.func64, Tryz.ntmps64
    all_goals go_wp2_with (go_at_call 86; refine (HW.out _).mono ?_; rintro e w' ⟨rfl, rfl⟩)
    all_goals refine wp_loop_rounds 7 ?_
    all_goals repeat (rw [rounds_succ]; go_wp2)
    all_goals go_ret
    all_goals exact ⟨Cd.ret_bool (by (rw [HN.out]; first | rfl | (simp; done) | (simp; rfl))), hbe⟩
  · have HN := Lib.hid (Fl.on_no (f := r.f) h)
    have HW := Lib.hid (fun w => rweekday_no d w h)
    clear h
    obtain ⟨⟨car, num, frm, to, days, dep, arr, cls, plan⟩, A, cap⟩ := r
    unfold Fl.fv
    have hbe := (Below.refl w.heap.size w).alloc (Nat.le_refl _) (.cells #[.string car, .int .i64 num, .string frm, .string to, .int .u8 days, .int .i64 dep, .int .i64 arr, .slice A cls.length cap, .int .i64 plan] 62)
    go_enter Tryz.func64, Tryz.ntmps64
    go_wp2_with (go_at_call 86; refine (HW.out _).mono ?_; rintro e w' ⟨rfl, rfl⟩)
    refine wp_loop_rounds 1 ?_
    repeat (rw [rounds_succ]; go_wp2)
    go_ret
    exact ⟨Cd.ret_bool HN.out.symm, hbe⟩
end Go.Proofs.YtmcekicaigbccaaGreat
