/- Facts of a plan's rows. -/
import Derived.Test.YtonfkonjkgalhaaDoorPlAt
namespace Go.Proofs.YtonfkonjkgalhaaDoor
open Go.RowKit Go.WideMaps
set_option linter.unusedVariables false

namespace Pl
theorem row_place {p : P} {k i : Nat} (hk : k < nrows p) (hi : i < p.lt.size) (hc : Cd.bt p.lt i ≠ 46) : ∃ h : (ahead p k i).length < (pls p).length, (pls p)[(ahead p k i).length] = (p.fr + (k : Int), i) := by
  obtain ⟨t, ht⟩ := ahead_pre p k (i + 1) hk hi
  rw [ahead_yes p k i hc] at ht
  have hl : (ahead p k i).length < (pls p).length := by rw [← ht]; simp
  refine ⟨hl, ?_⟩
  have e : (pls p)[(ahead p k i).length]? = some (p.fr + (k : Int), i) := by
    rw [← ht]
    simp
  rw [List.getElem?_eq_getElem hl] at e
  injection e
theorem row_num {p : P} (hl : lettersOk p.lt = true) {k i : Nat} (hk : k < nrows p) (hi : i < p.lt.size) (hc : Cd.bt p.lt i ≠ 46) : num p (p.fr + (k : Int), Cd.bt p.lt i) = (ahead p k i).length := by
  obtain ⟨h, e⟩ := row_place hk hi hc
  have := num_at hl h
  rw [e] at this
  exact this
theorem row_has {p : P} {k i : Nat} (hk : k < nrows p) (hi : i < p.lt.size) (hc : Cd.bt p.lt i ≠ 46) : hasS p (p.fr + (k : Int), Cd.bt p.lt i) = !p.bl.contains (p.fr + (k : Int), Cd.bt p.lt i) := by
  obtain ⟨h, e⟩ := row_place hk hi hc
  have hm : (p.fr + (k : Int), Cd.bt p.lt i) ∈ all p := by
    unfold all
    exact List.mem_map.2 ⟨(p.fr + (k : Int), i), e ▸ List.getElem_mem h, rfl⟩
  have : (all p).contains (p.fr + (k : Int), Cd.bt p.lt i) = true := by simpa using hm
  unfold hasS
  rw [this]
  rfl
theorem mk_no {p : P} {s : S} (h : hasS p s = false) : mkS p s = ⟨#[]⟩ := by
  unfold mkS
  rw [h]
  rfl
theorem mk_yes {p : P} (hl : lettersOk p.lt = true) {row : Int} {i : Nat} (h : hasS p (row, Cd.bt p.lt i) = true) (hi : i < p.lt.size) (hc : Cd.bt p.lt i ≠ 46) : mkS p (row, Cd.bt p.lt i) = marks p row i := by
  unfold mkS
  rw [h, if_pos rfl]
  show marks p row ((Cd.bs p.lt).idxOf (Cd.bt p.lt i)) = _
  rw [col_ix hl (cols_mem.2 ⟨hi, hc⟩)]
theorem mk_size (p : P) (row : Int) (i : Nat) : (marks p row i).size ≤ 3 := by
  unfold marks
  cases win p i <;> cases ail p i <;> cases p.ex.contains row <;> decide
theorem mk_first (p : P) (row : Int) (i : Nat) : win p i = (decide (0 < (marks p row i).size) && (Cd.bt (marks p row i) 0 == 87)) := by
  unfold marks
  cases win p i <;> cases ail p i <;> cases p.ex.contains row <;> decide
theorem mk_last (p : P) (row : Int) (i : Nat) : p.ex.contains row = (decide (0 < (marks p row i).size) && (Cd.bt (marks p row i) ((marks p row i).size - 1) == 69)) := by
  unfold marks
  cases win p i <;> cases ail p i <;> cases p.ex.contains row <;> decide
theorem has_out {p : P} {row c : Int} (h : inRow p row = false) : hasS p (row, c) = false := by
  unfold hasS
  have : (all p).contains (row, c) = false := by
    rw [Bool.eq_false_iff]
    intro hc
    rw [List.contains_iff_mem, mem_all] at hc
    rw [h] at hc
    exact absurd hc.1 (by decide)
  rw [this]
  rfl
theorem has_dot (p : P) (row : Int) : hasS p (row, 46) = false := by
  unfold hasS
  have : (all p).contains (row, 46) = false := by
    rw [Bool.eq_false_iff]
    intro hc
    rw [List.contains_iff_mem, mem_all] at hc
    have := hc.2
    unfold lets at this
    rw [List.mem_filter] at this
    simp at this
  rw [this]
  rfl
theorem lt_pos {s : ByteArray} (h : lettersOk s = true) : 0 < s.size := by
  rcases Nat.eq_zero_or_pos s.size with h0 | h0
  · unfold lettersOk at h
    have : Cd.bs s = [] := by rw [← List.length_eq_zero_iff, Cd.length_bs]; exact h0
    rw [this] at h
    exact absurd h (by decide)
  · exact h0
theorem take_has {l : List Int} {row : Int} {k : Nat} (h : k < l.length) : (l.take (k + 1)).contains row = ((l.take k).contains row || (gI l k == row)) := by
  rw [List.take_succ_eq_append_getElem h, gI_get l k h, Bool.eq_iff_iff]
  simp only [List.contains_iff_mem, List.mem_append, List.mem_singleton, Bool.or_eq_true, beq_iff_eq]
  exact or_congr Iff.rfl ⟨Eq.symm, Eq.symm⟩
theorem PlanIn.below {w w' : World} {r : R} (h : PlanIn w r) (hb : Below w.heap.size w w') : PlanIn w' r := ⟨h.wf, (h.e.below hb (Nat.le_refl _)).more hb.size, (h.b.below hb (Nat.le_refl _)).more hb.size, h.we, h.wb, h.ne, h.nb⟩
/-- What stays through the last region. -/
structure Kp (w : World) (g : Nat) (r : R) (w' : World) : Prop where
  m : MapAt w' w.heap.size g r.p (pls r.p)
  k : Rw.Blk w' w.heap.size 32 (enc r)
  b : Below w.heap.size w w'
theorem Kp.below {w : World} {g : Nat} {r : R} {w1 w2 : World} (h : Kp w g r w1) (hb : Below w1.heap.size w1 w2) : Kp w g r w2 := ⟨h.m.below hb, h.k.below' hb, h.b.trans (hb.mono h.b.size)⟩
theorem Kp.cells {w : World} {g : Nat} {r : R} {w1 : World} (h : Kp w g r w1) : w1.cell? ⟨w.heap.size, 0, none⟩ = some (.int .i64 r.p.fr) ∧ w1.cell? ⟨w.heap.size, 1, none⟩ = some (.int .i64 r.p.la) ∧ w1.cell? ⟨w.heap.size, 2, none⟩ = some (.string r.p.lt) ∧ Hid (Kp w g r w1) :=
  ⟨(h.k.cell 0).trans rfl, (h.k.cell 1).trans rfl, (h.k.cell 2).trans rfl, h⟩
theorem Kp.of4 {w : World} {g : Nat} {r : R} {w1 : World} (h : w1.cell? ⟨w.heap.size, 0, none⟩ = some (.int .i64 r.p.fr) ∧ w1.cell? ⟨w.heap.size, 1, none⟩ = some (.int .i64 r.p.la) ∧ w1.cell? ⟨w.heap.size, 2, none⟩ = some (.string r.p.lt) ∧ Hid (Kp w g r w1)) : Kp w g r w1 := h.2.2.2.out
end Pl
end Go.Proofs.YtonfkonjkgalhaaDoor
