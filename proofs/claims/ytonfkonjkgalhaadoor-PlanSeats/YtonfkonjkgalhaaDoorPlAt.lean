/- Contract of the document's At. -/
import Derived.Test.YtonfkonjkgalhaaDoorPlHlp
namespace Go.Proofs.YtonfkonjkgalhaaDoor
open Go.RowKit Go.WideMaps
set_option linter.unusedVariables false

namespace Pl
def ix (l : List S) (x : S) : Int := if x ∈ l then (l.idxOf x : Nat) else -1
def AtR (l : List S) (x : S) (w : World) (e : Ending) (w' : World) : Prop := e = .returned (.int .i64 (ix l x)) ∧ Below w.heap.size w w'
theorem ix_no {l : List S} {x1 x2 : Int} (h : ∀ j, j < l.length → ¬ (gR l j = x1 ∧ gC l j = x2)) : ix l (x1, x2) = -1 := by
  unfold ix
  rw [if_neg]
  intro hm
  obtain ⟨j, hj, e⟩ := List.getElem_of_mem hm
  rw [gS l j hj] at e
  injection e with e1 e2
  exact h j hj ⟨e1, e2⟩
theorem ix_yes {l : List S} {x1 x2 : Int} {k : Nat} (hk : k < l.length) (h : ∀ j, j < k → j < l.length → ¬ (gR l j = x1 ∧ gC l j = x2)) (e1 : gR l k = x1) (e2 : gC l k = x2) : ix l (x1, x2) = k := by
  have e : l[k] = (x1, x2) := by rw [gS l k hk, e1, e2]
  unfold ix
  rw [if_pos (by rw [← e]; exact List.getElem_mem hk)]
  have : l.idxOf (x1, x2) = k := by
    show l.findIdx (· == (x1, x2)) = k
    rw [List.findIdx_eq hk]
    refine ⟨by rw [e]; simp, fun j hj => ?_⟩
    rw [beq_eq_false_iff_ne, gS l j (by omega)]
    intro e'
    injection e' with a b
    exact h j hj (by omega) ⟨a, b⟩
  rw [this]
theorem ix_neg {l : List S} {x : S} : decide (ix l x < 0) = !l.contains x := by
  unfold ix
  by_cases h : x ∈ l
  · rw [if_pos h]; simp [h]
  · rw [if_neg h]; simp [h]
end Pl
set_option maxHeartbeats 1000000 in
theorem at_any (A : Option Addr) (l : List Pl.S) (cap B : Nat) (x : Pl.S) (w : World) (h : Pl.Sts w B A l) (hB : B ≤ w.heap.size) (hl : l.length ≤ 9223372036854775807) :
    Calls Tryd.prog 26 #[.slice A l.length cap, Pl.sv x] w (Pl.AtR l x w) := by
  have HI := Lib.hid h
  obtain ⟨x1, x2⟩ := x
  have HY : Hid (∀ k, k < l.length → (∀ j, j < k → j < l.length → ¬ (Pl.gR l j = x1 ∧ Pl.gC l j = x2)) → Pl.gR l k = x1 → Pl.gC l k = x2 → Pl.ix l (x1, x2) = k) := fun k hk hf e1 e2 => Pl.ix_yes hk hf e1 e2
  have HNo : Hid (∀ k, l.length ≤ k → (∀ j, j < k → j < l.length → ¬ (Pl.gR l j = x1 ∧ Pl.gC l j = x2)) → Pl.ix l (x1, x2) = -1) := fun k hk hf => Pl.ix_no (fun j hj => hf j (by omega) hj)
  unfold Pl.AtR
  generalize Pl.ix l (x1, x2) = res at *
  clear h
  unfold Pl.sv
  obtain ⟨w1, ew1⟩ : ∃ w1, w1 = w.alloc (.cells #[.int .i64 x1, .int .u8 x2] 23) := ⟨_, rfl⟩
  have hb0 : Below w.heap.size w w1 := by rw [ew1]; exact (Below.refl w.heap.size w).alloc (Nat.le_refl _) _
  have hz1 : w.heap.size < w1.heap.size := by rw [ew1]; simp
  have HSN : Hid (Pl.Sc (x1, x2) w.heap.size 0 w1) := by rw [ew1]; exact Pl.Sc.new (x1, x2) w
  go_enter Tryd.func26, Tryd.ntmps26
  go_wp2
  rw [← ew1]
  clear ew1
  go_loopw [5] (fun i wr => ∃ k n : Nat, k ≤ l.length ∧ i = .int .i64 k ∧ Hid (∀ j, j < k → j < l.length → ¬ (Pl.gR l j = x1 ∧ Pl.gC l j = x2)) ∧ wr = w1.drewN n) (fun i _ => l.length - (intOf i).toNat)
  case atStart => exact ⟨0, 0, by omega, rfl, fun j hj => absurd hj (by omega), rfl⟩
  case round =>
    obtain ⟨k, n, hk, rfl, HK, rfl⟩ := hrel
    by_cases hlt : k < l.length
    · obtain ⟨b, off, hA, hb, hc⟩ := HI.out (by omega)
      subst hA
      have c0 : ∀ q, (w1.drewN q).cell? ⟨b, off + k * 2, none⟩ = some (.int .i64 (Pl.gR l k)) := fun q => (hb0.cell (p := ⟨b, _, none⟩) (by show b < _; omega)).trans (hc k hlt).1
      have c1 : ∀ q, (w1.drewN q).cell? ⟨b, off + k * 2 + 1, none⟩ = some (.int .u8 (Pl.gC l k)) := fun q => (hb0.cell (p := ⟨b, _, none⟩) (by show b < _; omega)).trans (hc k hlt).2
      have d0 : ∀ q, (w1.drewN q).cell? ⟨w.heap.size, 0, none⟩ = some (.int .i64 x1) := fun q => HSN.out.1
      have d1 : ∀ q, (w1.drewN q).cell? ⟨w.heap.size, 1, none⟩ = some (.int .u8 x2) := fun q => HSN.out.2
      clear hc
      by_cases he : Pl.gR l k = x1 ∧ Pl.gC l k = x2
      · have HN := Lib.hid (HY.out k hlt HK.out he.1 he.2)
        rw [he.1] at c0
        rw [he.2] at c1
        clear he
        go_wp2
        go_quiet (fail)
        go_wp2
        go_ret
        exact ⟨Pl.ret_int HN.out.symm, Pl.below_drewN (Pl.below_drewN hb0 _) _⟩
      · have HN : Hid (∀ j, j < k + 1 → j < l.length → ¬ (Pl.gR l j = x1 ∧ Pl.gC l j = x2)) := fun j hj hl => by
          rcases Nat.lt_or_ge j k with hj' | hj'
          · exact HK.out j hj' hl
          · rw [show j = k by omega]; exact he
        by_cases h1 : Pl.gR l k = x1
        · rw [h1] at c0
          have h2 : ¬ Pl.gC l k = x2 := fun e => he ⟨h1, e⟩
          have hd : (Pl.gC l k == x2) = false := by simp; exact h2
          clear he h1
          go_wp2
          go_quiet (fail)
          go_wp2
          go_roundw
          case rel => exact ⟨k + 1, _, by omega, by go_num, HN, rfl⟩
          case measure => simp [intOf]; omega
        · have hd : (Pl.gR l k == x1) = false := by simp; exact h1
          clear he
          go_wp2
          go_quiet (fail)
          go_wp2
          go_roundw
          case rel => exact ⟨k + 1, _, by omega, by go_num, HN, rfl⟩
          case measure => simp [intOf]; omega
    · have HN := Lib.hid (HNo.out k (by omega) HK.out)
      go_wp2
      go_ret
      exact ⟨Pl.ret_int HN.out.symm, Pl.below_drewN hb0 _⟩
end Go.Proofs.YtonfkonjkgalhaaDoor
