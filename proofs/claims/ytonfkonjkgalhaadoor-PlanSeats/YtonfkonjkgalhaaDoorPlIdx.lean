/- Contracts of slices.Index and slices.Contains, of seats and of numbers; of marks. -/
import Derived.Test.YtonfkonjkgalhaaDoorPlBlk
namespace Go.Proofs.YtonfkonjkgalhaaDoor
open Go.RowKit
set_option linter.unusedVariables false

namespace Pl
theorem ix_none {α : Type} [BEq α] [LawfulBEq α] {l : List α} {x : α} {k : Nat} (hk : l.length ≤ k) (h : ∀ j (hj : j < l.length), j < k → l[j] ≠ x) : l.contains x = false := by
  rw [Bool.eq_false_iff]
  intro hc
  rw [List.contains_iff_mem] at hc
  obtain ⟨j, hj, e⟩ := List.getElem_of_mem hc
  exact h j hj (by omega) e
theorem ix_some {α : Type} [BEq α] [LawfulBEq α] {l : List α} {x : α} {k : Nat} (hk : k < l.length) (h : l[k] = x) : l.contains x = true := by
  rw [List.contains_iff_mem, ← h]
  exact List.getElem_mem hk
end Pl
theorem indexInts_any (A : Option Addr) (l : List Int) (cap B : Nat) (x : Int) (w : World) (h : Pl.Ints w B A l) (hl : l.length ≤ 9223372036854775807) :
    Calls Tryd.prog 61 #[.slice A l.length cap, .int .i64 x] w fun e w' => (∃ i : Int, e = .returned (.int .i64 i) ∧ decide (0 ≤ i) = l.contains x) ∧ w = w' := by
  have HI := Lib.hid h
  have HY : Hid (∀ k, k < l.length → Pl.gI l k = x → l.contains x = true) := fun k hk e => Pl.ix_some hk (by rw [Pl.gI_get _ _ hk]; exact e)
  have HNo : Hid (∀ k, l.length ≤ k → (∀ j, j < k → j < l.length → Pl.gI l j ≠ x) → l.contains x = false) := fun k hk hf => Pl.ix_none hk (fun j hj hjk => by rw [Pl.gI_get _ _ hj]; exact hf j hjk hj)
  generalize l.contains x = res at *
  clear h
  go_enter Tryd.func61, Tryd.ntmps61
  go_wp2
  go_loop [8] (fun i => ∃ k : Nat, k ≤ l.length ∧ i = .int .i64 k ∧ Hid (∀ j, j < k → j < l.length → Pl.gI l j ≠ x)) (fun i => l.length - (intOf i).toNat)
  case atStart => exact ⟨0, by omega, rfl, fun j hj => absurd hj (by omega)⟩
  case round =>
    obtain ⟨k, hk, rfl, HK⟩ := hrel
    by_cases hlt : k < l.length
    · obtain ⟨b, off, hA, hb, hc⟩ := HI.out (by omega)
      subst hA
      have c0 := hc k hlt
      clear hc
      by_cases he : Pl.gI l k = x
      · have HN := Lib.hid (HY.out k hlt he)
        have hd : (x == Pl.gI l k) = true := by simp [he]
        clear he
        go_wp2
        go_ret
        exact ⟨⟨k, rfl, by rw [HN.out]; simp⟩, rfl⟩
      · have HN : Hid (∀ j, j < k + 1 → j < l.length → Pl.gI l j ≠ x) := fun j hj hl => by
          rcases Nat.lt_or_ge j k with hj' | hj'
          · exact HK.out j hj' hl
          · rw [show j = k by omega]; exact he
        have hd : (x == Pl.gI l k) = false := by simp; exact fun e => he e.symm
        clear he
        go_wp2
        go_round
        case rel => exact ⟨k + 1, by omega, by go_num, HN⟩
        case measure => simp [intOf]; omega
    · go_wp2
      go_ret
      exact ⟨⟨-1, rfl, by rw [HNo.out k (by omega) HK.out]; rfl⟩, rfl⟩
theorem containsInts_any (A : Option Addr) (l : List Int) (cap B : Nat) (x : Int) (w : World) (h : Pl.Ints w B A l) (hl : l.length ≤ 9223372036854775807) :
    Calls Tryd.prog 55 #[.slice A l.length cap, .int .i64 x] w fun e w' => e = .returned (.bool (l.contains x)) ∧ w = w' := by
  have H1 := Lib.hid (indexInts_any A l cap B x w h hl)
  clear h
  generalize l.contains x = res at *
  go_enter Tryd.func55, Tryd.ntmps55
  go_wp2_with (go_at_call 61; refine H1.out.mono ?_; rintro e w' ⟨⟨i, rfl, hi⟩, rfl⟩)
  go_ret
  exact ⟨Pl.ret_bool (by first | exact hi | rfl), rfl⟩
set_option maxHeartbeats 1000000 in
theorem indexSeats_any (A : Option Addr) (l : List Pl.S) (cap B : Nat) (x : Pl.S) (w : World) (h : Pl.Sts w B A l) (hB : B ≤ w.heap.size) (hl : l.length ≤ 9223372036854775807) :
    Calls Tryd.prog 54 #[.slice A l.length cap, Pl.sv x] w fun e w' => (∃ i : Int, e = .returned (.int .i64 i) ∧ decide (0 ≤ i) = l.contains x) ∧ Below w.heap.size w w' := by
  have HI := Lib.hid h
  obtain ⟨x1, x2⟩ := x
  have HY : Hid (∀ k, k < l.length → Pl.gR l k = x1 → Pl.gC l k = x2 → l.contains (x1, x2) = true) := fun k hk e1 e2 => Pl.ix_some hk (by rw [Pl.gS _ _ hk, e1, e2])
  have HNo : Hid (∀ k, l.length ≤ k → (∀ j, j < k → j < l.length → ¬ (Pl.gR l j = x1 ∧ Pl.gC l j = x2)) → l.contains (x1, x2) = false) := fun k hk hf => Pl.ix_none hk (fun j hj hjk => by rw [Pl.gS _ _ hj]; intro e; injection e with e1 e2; exact hf j hjk hj ⟨e1, e2⟩)
  generalize l.contains (x1, x2) = res at *
  clear h
  unfold Pl.sv
  obtain ⟨w1, ew1⟩ : ∃ w1, w1 = w.alloc (.cells #[.int .i64 x1, .int .u8 x2] 23) := ⟨_, rfl⟩
  have hb0 : Below w.heap.size w w1 := by rw [ew1]; exact (Below.refl w.heap.size w).alloc (Nat.le_refl _) _
  have hz1 : w.heap.size < w1.heap.size := by rw [ew1]; simp
  have HSN : Hid (Pl.Sc (x1, x2) w.heap.size 0 w1) := by rw [ew1]; exact Pl.Sc.new (x1, x2) w
  go_enter Tryd.func54, Tryd.ntmps54
  go_wp2
  rw [← ew1]
  clear ew1
  go_loopw [8] (fun i wr => ∃ k n : Nat, k ≤ l.length ∧ i = .int .i64 k ∧ Hid (∀ j, j < k → j < l.length → ¬ (Pl.gR l j = x1 ∧ Pl.gC l j = x2)) ∧ wr = w1.drewN n) (fun i _ => l.length - (intOf i).toNat)
  case atStart => exact ⟨0, 0, by omega, rfl, fun j hj => absurd hj (by omega), rfl⟩
  case round =>
    obtain ⟨k, n, hk, rfl, HK, rfl⟩ := hrel
    by_cases hlt : k < l.length
    · obtain ⟨b, off, hA, hb, hc⟩ := HI.out (by omega)
      subst hA
      have c0 : ∀ q, (w1.drewN q).cell? ⟨b, off + k * 2, none⟩ = some (.int .i64 (Pl.gR l k)) := fun q => (hb0.cell (p := ⟨b, _, none⟩) (by show b < _; omega)).trans (hc k hlt).1
      have c1 : ∀ q, (w1.drewN q).cell? ⟨b, off + k * 2 + 1, none⟩ = some (.int .u8 (Pl.gC l k)) := fun q => (hb0.cell (p := ⟨b, _, none⟩) (by show b < _; omega)).trans (hc k hlt).2
      have d0 : ∀ q, (w1.drewN q).cell? ⟨w.heap.size, 0, none⟩ = some (.int .i64 x1) := fun q => HSN.out.1
      have d1 : ∀ q, (w1.drewN q).cell? ⟨w.heap.size, 1, none⟩ = some (.int .u8 x2) := fun q => HSN.out.2
      clear hc
      by_cases he : Pl.gR l k = x1 ∧ Pl.gC l k = x2
      · have HN := Lib.hid (HY.out k hlt he.1 he.2)
        rw [he.1] at c0
        rw [he.2] at c1
        clear he
        go_wp2
        go_quiet (fail)
        go_wp2
        go_ret
        exact ⟨⟨k, rfl, by rw [HN.out]; simp⟩, Pl.below_drewN (Pl.below_drewN hb0 _) _⟩
      · have HN : Hid (∀ j, j < k + 1 → j < l.length → ¬ (Pl.gR l j = x1 ∧ Pl.gC l j = x2)) := fun j hj hl => by
          rcases Nat.lt_or_ge j k with hj' | hj'
          · exact HK.out j hj' hl
          · rw [show j = k by omega]; exact he
        by_cases h1 : Pl.gR l k = x1
        · rw [h1] at c0
          have h2 : ¬ x2 = Pl.gC l k := fun e => he ⟨h1, e.symm⟩
          have hd : (x2 == Pl.gC l k) = false := by simp; exact h2
          clear he h1
          go_wp2
          go_quiet (fail)
          go_wp2
          go_roundw
          case rel => exact ⟨k + 1, _, by omega, by go_num, HN, rfl⟩
          case measure => simp [intOf]; omega
        · have h2 : ¬ x1 = Pl.gR l k := fun e => h1 e.symm
          have hd : (x1 == Pl.gR l k) = false := by simp; exact h2
          clear he h1
          go_wp2
          go_quiet (fail)
          go_wp2
          go_roundw
          case rel => exact ⟨k + 1, _, by omega, by go_num, HN, rfl⟩
          case measure => simp [intOf]; omega
    · go_wp2
      go_ret
      exact ⟨⟨-1, rfl, by rw [HNo.out k (by omega) HK.out]; rfl⟩, Pl.below_drewN hb0 _⟩
end Go.Proofs.YtonfkonjkgalhaaDoor
