/- Whether a flight flies on a day: the program's and the document's. -/
import Derived.Test.YtmcekicaigbccaaGreatFlChk
import Derived.Test.YtmcekicaigbccaaGreatRw
namespace Go.Proofs.YtmcekicaigbccaaGreat
open Go.RowKit
set_option linter.unusedVariables false

namespace Fl
/-- Does it fly on a day? -/
def on (f : F) (d : Int) : Bool := decide (0 ≤ d) && decide (d < 366) && decide (f.days / 2 ^ (d % 7).toNat % 2 = 1)
theorem on_no {f : F} {d : Int} (h : ¬ (0 ≤ d ∧ d < 366)) : on f d = false := by
  unfold on
  by_cases h1 : 0 ≤ d
  · rw [decide_eq_false (p := d < 366) (by omega)]; simp
  · rw [decide_eq_false (p := 0 ≤ d) h1]; rfl
theorem on_yes {f : F} {d : Int} (h1 : 0 ≤ d) (h2 : d < 366) : on f d = decide (f.days / 2 ^ (d % 7).toNat % 2 = 1) := by
  unfold on
  rw [decide_eq_true h1, decide_eq_true h2]; rfl
theorem seven {d : Int} : d % 7 = 0 ∨ d % 7 = 1 ∨ d % 7 = 2 ∨ d % 7 = 3 ∨ d % 7 = 4 ∨ d % 7 = 5 ∨ d % 7 = 6 := by omega
theorem and1_bits : ∀ n : Fin 256, bits BinOp.and IntKind.u8 (n.val : Int) 1 = (n.val : Int) % 2 := by decide +kernel
theorem and1 (b : Int) (h0 : 0 ≤ b) (h1 : b < 256) : (bits BinOp.and IntKind.u8 b 1 == 1) = decide (b % 2 = 1) := by
  have := and1_bits ⟨b.toNat, by omega⟩
  simp only [show ((b.toNat : Nat) : Int) = b by omega] at this
  rw [this]
  by_cases h : b % 2 = 1
  · rw [h]; rfl
  · rw [show b % 2 = 0 by omega]; rfl
end Fl
theorem flies_any (r : Fl.R) (d : Int) (w : World) (hw : Fl.Wf r) : Calls Tryz.prog 67 #[Fl.fv r, .int .i64 d] w fun e w' => e = .returned (.bool (Fl.on r.f d)) ∧ Below w.heap.size w w' := by
  have d0 := hw.d0
  have d1 := hw.d1
  clear hw
  by_cases h : 0 ≤ d ∧ d < 366
  · obtain ⟨h1, h2⟩ := h
    have HN := Lib.hid (Fl.on_yes (f := r.f) h1 h2)
    have HW := Lib.hid (fun w => weekday_yes d w h1 h2)
    obtain ⟨⟨car, num, frm, to, days, dep, arr, cls, plan⟩, A, cap⟩ := r
    unfold Fl.fv
    simp only at HN d0 d1 ⊢
    have hbe := (Below.refl w.heap.size w).alloc (Nat.le_refl _) (.cells #[.string car, .int .i64 num, .string frm, .string to, .int .u8 days, .int .i64 dep, .int .i64 arr, .slice A cls.length cap, .int .i64 plan] 62)
    generalize Fl.on _ d = q at *
    rcases Fl.seven (d := d) with h7 | h7 | h7 | h7 | h7 | h7 | h7
    all_goals rw [h7] at HN HW
    all_goals clear h7 h1 h2
    all_goals go_enter Tryz.func67, Tryz.ntmps67
    all_goals go_wp2_with (go_at_call 89; refine (HW.out _).mono ?_; rintro e w' ⟨rfl, rfl⟩)
    all_goals go_ret
    all_goals exact ⟨Cd.ret_bool (by (rw [Fl.and1 _ (by omega) (by omega), HN.out]; first | rfl | simp)), hbe⟩
  · have HN := Lib.hid (Fl.on_no (f := r.f) h)
    have HW := Lib.hid (fun w => weekday_no d w h)
    clear h
    obtain ⟨⟨car, num, frm, to, days, dep, arr, cls, plan⟩, A, cap⟩ := r
    unfold Fl.fv
    have hbe := (Below.refl w.heap.size w).alloc (Nat.le_refl _) (.cells #[.string car, .int .i64 num, .string frm, .string to, .int .u8 days, .int .i64 dep, .int .i64 arr, .slice A cls.length cap, .int .i64 plan] 62)
    go_enter Tryz.func67, Tryz.ntmps67
    go_wp2_with (go_at_call 89; refine (HW.out _).mono ?_; rintro e w' ⟨rfl, rfl⟩)
    go_ret
    exact ⟨Cd.ret_bool HN.out.symm, hbe⟩
end Go.Proofs.YtmcekicaigbccaaGreat
