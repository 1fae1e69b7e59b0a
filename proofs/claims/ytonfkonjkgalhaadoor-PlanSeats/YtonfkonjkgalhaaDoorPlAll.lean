/- The places of a plan in their order, as plain lists. -/
import Derived.Test.YtonfkonjkgalhaaDoorPlMk
namespace Go.Proofs.YtonfkonjkgalhaaDoor
set_option linter.unusedVariables false

namespace Pl
/-- The columns ahead of i. -/
def colsTo (p : P) (i : Nat) : List Nat := (List.range i).filter fun j => decide (Cd.bt p.lt j ≠ 46)
def cols (p : P) : List Nat := colsTo p p.lt.size
/-- The places of the first k rows. -/
def upto (p : P) (k : Nat) : List (Int × Nat) := (List.range k).flatMap fun (j : Nat) => (cols p).map fun i => (p.fr + (j : Int), i)
def nrows (p : P) : Nat := (p.la - p.fr + 1).toNat
def pls (p : P) : List (Int × Nat) := upto p (nrows p)
def seatOf (p : P) (q : Int × Nat) : S := (q.1, Cd.bt p.lt q.2)
def all (p : P) : List S := (pls p).map (seatOf p)
/-- The letters. -/
def lets (p : P) : List Int := (Cd.bs p.lt).filter fun c => decide (c ≠ 46)
/-- What was laid ahead of place i of row k. -/
def ahead (p : P) (k i : Nat) : List (Int × Nat) := upto p k ++ (colsTo p i).map fun j => (p.fr + (k : Int), j)
theorem colsTo_succ (p : P) (i : Nat) : colsTo p (i + 1) = colsTo p i ++ (if Cd.bt p.lt i ≠ 46 then [i] else []) := by
  unfold colsTo
  rw [List.range_succ, List.filter_append]
  by_cases h : Cd.bt p.lt i = 46 <;> simp [h]
theorem upto_succ (p : P) (k : Nat) : upto p (k + 1) = upto p k ++ (cols p).map fun i => (p.fr + (k : Int), i) := by
  unfold upto
  rw [List.range_succ, List.flatMap_append]
  simp
theorem ahead_zero (p : P) (k : Nat) : ahead p k 0 = upto p k := by simp [ahead, colsTo]
theorem ahead_end (p : P) (k : Nat) : ahead p k p.lt.size = upto p (k + 1) := by rw [upto_succ]; rfl
theorem ahead_yes (p : P) (k i : Nat) (h : Cd.bt p.lt i ≠ 46) : ahead p k (i + 1) = ahead p k i ++ [(p.fr + (k : Int), i)] := by
  unfold ahead
  rw [colsTo_succ, if_pos h]
  simp
theorem ahead_no (p : P) (k i : Nat) (h : Cd.bt p.lt i = 46) : ahead p k (i + 1) = ahead p k i := by
  unfold ahead
  rw [colsTo_succ, if_neg (by simp [h])]
  simp
theorem colsTo_pre (p : P) (i d : Nat) : colsTo p i <+: colsTo p (i + d) := by
  induction d with
  | zero => exact List.prefix_refl _
  | succ d ih => rw [← Nat.add_assoc, colsTo_succ]; exact ih.trans (List.prefix_append _ _)
theorem upto_pre (p : P) (i d : Nat) : upto p i <+: upto p (i + d) := by
  induction d with
  | zero => exact List.prefix_refl _
  | succ d ih => rw [← Nat.add_assoc, upto_succ]; exact ih.trans (List.prefix_append _ _)
theorem ahead_pre (p : P) (k i : Nat) (hk : k < nrows p) (hi : i ≤ p.lt.size) : ahead p k i <+: pls p := by
  have h1 : ahead p k i <+: upto p (k + 1) := by
    rw [← ahead_end]
    unfold ahead
    rw [List.prefix_append_right_inj]
    have := colsTo_pre p i (p.lt.size - i)
    rw [Nat.add_sub_cancel' hi] at this
    exact this.map _
  have h2 := upto_pre p (k + 1) (nrows p - (k + 1))
  rw [Nat.add_sub_cancel' hk] at h2
  exact h1.trans h2
theorem bs_range (s : ByteArray) : Cd.bs s = (List.range s.size).map (Cd.bt s) := by
  apply List.ext_getElem
  · rw [Cd.length_bs]; simp
  · intro i h1 h2
    simp only [List.getElem_map, List.getElem_range]
    unfold Cd.bt
    rw [List.getD_eq_getElem?_getD, List.getElem?_eq_getElem h1]
    rfl
theorem lets_cols (p : P) : (cols p).map (Cd.bt p.lt) = lets p := by
  unfold lets cols colsTo
  rw [bs_range, List.filter_map]
  rfl
theorem all_eq (p : P) : all p = (List.range (nrows p)).flatMap fun (j : Nat) => (lets p).map fun c => (p.fr + (j : Int), c) := by
  unfold all pls upto
  rw [List.map_flatMap]
  congr 1
  funext j
  rw [← lets_cols, List.map_map, List.map_map]
  rfl
theorem lf_ok : ∀ (l : List Int) (n : Nat) (g : Int) (a : Bool), lf l n g a = true → n ≤ 10 →
    (l.filter fun c => decide (c ≠ 46)).Pairwise (· < ·) ∧ (∀ c ∈ l.filter fun c => decide (c ≠ 46), g < c ∧ Cd.isL c = true) ∧ (l.filter fun c => decide (c ≠ 46)).length + n ≤ 10
  | [], n, g, a, _, hn => ⟨by simp, by simp, by simpa using hn⟩
  | c :: l, n, g, a, h, hn => by
    unfold lf at h
    by_cases hc : c = 46
    · rw [if_pos hc] at h
      cases a with
      | true => simp at h
      | false =>
        have ih := lf_ok l n g true (by simpa using h) hn
        simpa [hc] using ih
    · rw [if_neg hc] at h
      by_cases hq : (Cd.isL c && decide (g < c) && decide (n ≠ 10)) = true
      · rw [if_pos hq] at h
        simp only [Bool.and_eq_true, decide_eq_true_eq] at hq
        obtain ⟨i1, i2, i3⟩ := lf_ok l (n + 1) c false h (by omega)
        have hf : (c :: l).filter (fun c => decide (c ≠ 46)) = c :: l.filter fun c => decide (c ≠ 46) := by simp [hc]
        rw [hf]
        refine ⟨List.pairwise_cons.2 ⟨fun a ha => (i2 a ha).1, i1⟩, fun x hx => ?_, by simp only [List.length_cons]; omega⟩
        rcases List.mem_cons.1 hx with rfl | hx
        · exact ⟨hq.1.2, hq.1.1⟩
        · exact ⟨Int.lt_trans hq.1.2 (i2 x hx).1, (i2 x hx).2⟩
      · rw [if_neg hq] at h; cases h
theorem lets_ok {p : P} (h : lettersOk p.lt = true) : (lets p).Pairwise (· < ·) ∧ (∀ c ∈ lets p, Cd.isL c = true) ∧ (lets p).length ≤ 10 := by
  obtain ⟨h1, h2, h3⟩ := lf_ok (Cd.bs p.lt) 0 0 true h (by omega)
  exact ⟨h1, fun c hc => (h2 c hc).2, h3⟩
theorem lss_lt {a b : S} : lss a b = true ↔ a.1 < b.1 ∨ (a.1 = b.1 ∧ a.2 < b.2) := by
  simp [lss]
theorem all_rise {p : P} (h : lettersOk p.lt = true) : (all p).Pairwise (fun a b => lss a b = true) := by
  rw [all_eq, List.pairwise_flatMap]
  constructor
  · intro j _
    rw [List.pairwise_map]
    refine (lets_ok h).1.imp (fun {a b} (hab : a < b) => ?_)
    exact lss_lt.2 (.inr ⟨rfl, hab⟩)
  · refine List.pairwise_lt_range.imp fun hab => ?_
    intro x hx y hy
    obtain ⟨_, _, rfl⟩ := List.mem_map.1 hx
    obtain ⟨_, _, rfl⟩ := List.mem_map.1 hy
    exact lss_lt.2 (.inl (by show _ + _ < _ + _; omega))
theorem lss_ne {a b : S} (h : lss a b = true) : a ≠ b := by
  rintro rfl
  rcases lss_lt.1 h with h | ⟨_, h⟩ <;> omega
theorem all_nodup {p : P} (h : lettersOk p.lt = true) : (all p).Nodup := (all_rise h).imp lss_ne
theorem all_len {p : P} (h : lettersOk p.lt = true) (hr : rowsOk p = true) : (all p).length ≤ 600 := by
  rw [all_eq, List.length_flatMap]
  have h1 := (lets_ok h).2.2
  have h2 : nrows p ≤ 60 := by simp [rowsOk] at hr; unfold nrows; omega
  simp only [List.length_map, List.map_const', List.length_range, List.sum_replicate_nat]
  calc nrows p * (lets p).length ≤ 60 * 10 := Nat.mul_le_mul h2 h1
    _ = 600 := rfl
theorem mem_all {p : P} {s : S} : s ∈ all p ↔ inRow p s.1 = true ∧ s.2 ∈ lets p := by
  rw [all_eq, List.mem_flatMap]
  constructor
  · rintro ⟨j, hj, hs⟩
    obtain ⟨c, hc, rfl⟩ := List.mem_map.1 hs
    rw [List.mem_range] at hj
    unfold nrows at hj
    refine ⟨?_, hc⟩
    simp [inRow]; omega
  · rintro ⟨h1, h2⟩
    simp [inRow] at h1
    refine ⟨(s.1 - p.fr).toNat, ?_, List.mem_map.2 ⟨s.2, h2, ?_⟩⟩
    · rw [List.mem_range]; unfold nrows; omega
    · obtain ⟨a, b⟩ := s
      simp only at *
      congr 1; omega
theorem ahead_new {p : P} (hl : lettersOk p.lt = true) {k i : Nat} (hk : k < nrows p) (hi : i < p.lt.size) (hc : Cd.bt p.lt i ≠ 46) : ∀ q ∈ ahead p k i, seatOf p q ≠ seatOf p (p.fr + (k : Int), i) := by
  have h1 := ahead_pre p k (i + 1) hk hi
  rw [ahead_yes p k i hc] at h1
  have h2 := h1.map (seatOf p)
  have h3 := h2.sublist.nodup (all_nodup hl)
  rw [List.map_append, List.nodup_append] at h3
  intro q hq
  exact h3.2.2 _ (List.mem_map.2 ⟨q, hq, rfl⟩) _ (by simp)
theorem ahead_len {p : P} (hl : lettersOk p.lt = true) (hr : rowsOk p = true) {k i : Nat} (hk : k < nrows p) (hi : i ≤ p.lt.size) : (ahead p k i).length ≤ 600 := by
  have h1 := (ahead_pre p k i hk hi).length_le
  have h2 := all_len hl hr
  unfold all at h2
  rw [List.length_map] at h2
  omega
end Pl
end Go.Proofs.YtonfkonjkgalhaaDoor
