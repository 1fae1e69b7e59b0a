/- The closures of Between and Links; arrivesThatDay, reaches. -/
import Derived.Test.YtmcekicaigbccaaGreatFlDep
namespace Go.Proofs.YtmcekicaigbccaaGreat
open Go.RowKit
set_option linter.unusedVariables false

namespace Fl
def seq (a b : ByteArray) : Bool := a.toList == b.toList
end Fl
theorem arrives_any (r : Fl.R) (w : World) : Calls Tryz.prog 60 #[Fl.fv r] w fun e w' => e = .returned (.bool (decide (r.f.dep ≤ r.f.arr))) ∧ Below w.heap.size w w' := by
  obtain ⟨⟨car, num, frm, to, days, dep, arr, cls, plan⟩, A, cap⟩ := r
  unfold Fl.fv
  simp only
  have hbe := (Below.refl w.heap.size w).alloc (Nat.le_refl _) (.cells #[.string car, .int .i64 num, .string frm, .string to, .int .u8 days, .int .i64 dep, .int .i64 arr, .slice A cls.length cap, .int .i64 plan] 62)
  go_enter Tryz.func60, Tryz.ntmps60
  go_wp2
  go_ret
  exact ⟨rfl, hbe⟩
theorem between1_any (r : Fl.R) (g6 g7 : Nat) (a b : ByteArray) (w : World) (h6 : w.cell? ⟨g6, 0, none⟩ = some (.string a)) (h7 : w.cell? ⟨g7, 0, none⟩ = some (.string b)) (l6 : g6 < w.heap.size) (l7 : g7 < w.heap.size) :
    Calls Tryz.prog 58 #[Fl.fv r, .pointer (some ⟨g6, 0, none⟩), .pointer (some ⟨g7, 0, none⟩)] w fun e w' => e = .returned (.bool (Fl.seq r.f.frm a && Fl.seq r.f.to b)) ∧ Below w.heap.size w w' := by
  obtain ⟨⟨car, num, frm, to, days, dep, arr, cls, plan⟩, A, cap⟩ := r
  unfold Fl.fv
  simp only
  have hbe := (Below.refl w.heap.size w).alloc (Nat.le_refl _) (.cells #[.string car, .int .i64 num, .string frm, .string to, .int .u8 days, .int .i64 dep, .int .i64 arr, .slice A cls.length cap, .int .i64 plan] 62)
  have k6 := (hbe.cell (p := ⟨g6, 0, none⟩) l6).trans h6
  have k7 := (hbe.cell (p := ⟨g7, 0, none⟩) l7).trans h7
  have e1 : Hid (Fl.seq frm a = (frm.toList == a.toList)) := show _ = _ by rfl
  have e2 : Hid (Fl.seq to b = (to.toList == b.toList)) := show _ = _ by rfl
  cases h1 : Fl.seq frm a with
  | false =>
    have s1 := e1.out.symm.trans h1
    clear e1 e2 h1
    go_enter Tryz.func58, Tryz.ntmps58
    go_wp2
    go_ret
    exact ⟨rfl, hbe⟩
  | true =>
    have s1 := e1.out.symm.trans h1
    cases h2 : Fl.seq to b with
    | false =>
      have s2 := e2.out.symm.trans h2
      clear e1 e2 h1 h2
      go_enter Tryz.func58, Tryz.ntmps58
      go_wp2
      go_ret
      exact ⟨rfl, hbe⟩
    | true =>
      have s2 := e2.out.symm.trans h2
      clear e1 e2 h1 h2
      go_enter Tryz.func58, Tryz.ntmps58
      go_wp2
      go_ret
      exact ⟨rfl, hbe⟩
theorem links1_any (r : Fl.R) (g6 : Nat) (a : ByteArray) (w : World) (h6 : w.cell? ⟨g6, 0, none⟩ = some (.string a)) (l6 : g6 < w.heap.size) :
    Calls Tryz.prog 59 #[Fl.fv r, .pointer (some ⟨g6, 0, none⟩)] w fun e w' => e = .returned (.bool (Fl.seq r.f.frm a && decide (r.f.dep ≤ r.f.arr))) ∧ Below w.heap.size w w' := by
  have HA := Lib.hid (fun w => arrives_any r w)
  obtain ⟨⟨car, num, frm, to, days, dep, arr, cls, plan⟩, A, cap⟩ := r
  unfold Fl.fv at *
  simp only at HA ⊢
  have hbe := (Below.refl w.heap.size w).alloc (Nat.le_refl _) (.cells #[.string car, .int .i64 num, .string frm, .string to, .int .u8 days, .int .i64 dep, .int .i64 arr, .slice A cls.length cap, .int .i64 plan] 62)
  have k6 := (hbe.cell (p := ⟨g6, 0, none⟩) l6).trans h6
  have e1 : Hid (Fl.seq frm a = (frm.toList == a.toList)) := show _ = _ by rfl
  generalize decide (dep ≤ arr) = q at *
  cases h1 : Fl.seq frm a with
  | false =>
    have s1 := e1.out.symm.trans h1
    clear e1 h1
    go_enter Tryz.func59, Tryz.ntmps59
    go_wp2
    go_ret
    exact ⟨rfl, hbe⟩
  | true =>
    have s1 := e1.out.symm.trans h1
    clear e1 h1
    go_enter Tryz.func59, Tryz.ntmps59
    go_wp2_with (go_at_call 60; refine (HA.out _).mono ?_; rintro e w2 ⟨rfl, hb2⟩)
    go_ret
    exact ⟨rfl, hbe.trans (hb2.mono hbe.size)⟩
theorem links2_any (r : Fl.R) (g6 : Nat) (a : ByteArray) (w : World) (h6 : w.cell? ⟨g6, 0, none⟩ = some (.string a)) (l6 : g6 < w.heap.size) :
    Calls Tryz.prog 61 #[Fl.fv r, .pointer (some ⟨g6, 0, none⟩)] w fun e w' => e = .returned (.bool (Fl.seq r.f.to a)) ∧ Below w.heap.size w w' := by
  obtain ⟨⟨car, num, frm, to, days, dep, arr, cls, plan⟩, A, cap⟩ := r
  unfold Fl.fv at *
  simp only
  have hbe := (Below.refl w.heap.size w).alloc (Nat.le_refl _) (.cells #[.string car, .int .i64 num, .string frm, .string to, .int .u8 days, .int .i64 dep, .int .i64 arr, .slice A cls.length cap, .int .i64 plan] 62)
  have k6 := (hbe.cell (p := ⟨g6, 0, none⟩) l6).trans h6
  have e1 : Hid (Fl.seq to a = (to.toList == a.toList)) := show _ = _ by rfl
  cases h1 : Fl.seq to a with
  | false =>
    have s1 := e1.out.symm.trans h1
    clear e1 h1
    go_enter Tryz.func61, Tryz.ntmps61
    go_wp2
    go_ret
    exact ⟨rfl, hbe⟩
  | true =>
    have s1 := e1.out.symm.trans h1
    clear e1 h1
    go_enter Tryz.func61, Tryz.ntmps61
    go_wp2
    go_ret
    exact ⟨rfl, hbe⟩
end Go.Proofs.YtmcekicaigbccaaGreat
