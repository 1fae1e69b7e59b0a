/- Read and Text as functions of their arguments; the walk of PlanTexts. -/
import Derived.Test.YtonfkonjkgalhaaDoorPlAwk
namespace Go.Proofs.YtonfkonjkgalhaaDoor
open Go.RowKit Go.WideMaps
set_option linter.unusedVariables false

namespace Pl
def okOf (t : ByteArray) : Bool := decide (2 ≤ t.size) && decide (t.size ≤ 3) && decide (txt (seatT t) = t)
def rsOf (t : ByteArray) : S := if okOf t then seatT t else (0, 0)
theorem okOf_txt {t : ByteArray} (h : okOf t = true) : txt (rsOf t) = t := by
  unfold rsOf
  rw [if_pos h]
  simp [okOf] at h
  exact h.2
theorem txt_size {s : S} : (rowT s.1 && Cd.isL s.2) = true → 2 ≤ (txt s).size ∧ (txt s).size ≤ 3 := fun h => by
  unfold txt
  rw [if_pos h, ByteArray.size_append]
  unfold dig
  split <;> simp [ByteArray.size]
theorem txt_none {s : S} : (rowT s.1 && Cd.isL s.2) = false → txt s = ⟨#[]⟩ := fun h => by
  unfold txt
  rw [h]
  rfl
theorem txt_last {s : S} (h : (rowT s.1 && Cd.isL s.2) = true) : Cd.bt (txt s) ((txt s).size - 1) = s.2 := by
  have hL : 65 ≤ s.2 ∧ s.2 ≤ 90 := by
    simp only [Bool.and_eq_true] at h
    simpa [Cd.isL] using h.2
  unfold txt
  rw [if_pos h]
  unfold dig
  split
  · have e : (⟨#[(48 + s.1.toNat).toUInt8]⟩ : ByteArray) ++ ⟨#[s.2.toNat.toUInt8]⟩ = ⟨[(48 + s.1.toNat).toUInt8, s.2.toNat.toUInt8].toArray⟩ := by apply ByteArray.ext; simp
    rw [e]
    show Cd.bt _ 1 = _
    rw [bt_mk _ 1 (by simp)]
    simp [Nat.toUInt8_eq]; omega
  · have e : (⟨#[(48 + s.1.toNat / 10).toUInt8, (48 + s.1.toNat % 10).toUInt8]⟩ : ByteArray) ++ ⟨#[s.2.toNat.toUInt8]⟩ = ⟨[(48 + s.1.toNat / 10).toUInt8, (48 + s.1.toNat % 10).toUInt8, s.2.toNat.toUInt8].toArray⟩ := by apply ByteArray.ext; simp
    rw [e]
    show Cd.bt _ 2 = _
    rw [bt_mk _ 2 (by simp)]
    simp [Nat.toUInt8_eq]; omega
theorem txt_back {s : S} (h : (rowT s.1 && Cd.isL s.2) = true) : okOf (txt s) = true ∧ rsOf (txt s) = s := by
  obtain ⟨h2, h3⟩ := txt_size h
  have hr : 1 ≤ s.1 ∧ s.1 ≤ 99 := by
    simp only [Bool.and_eq_true] at h
    simpa [rowT] using h.1
  have e : seatT (txt s) = s := by
    unfold seatT
    rw [txt_last h]
    obtain ⟨a, b⟩ := s
    have : a = ((a.toNat : Nat) : Int) := by simp only at hr; omega
    have hrow := row_of (k := a.toNat) (c := b) (t := txt (a, b)) (by simp only at hr; omega) (by simp only at hr; omega) (by rw [← this]) h2
    rw [hrow, ← this]
  have ho : okOf (txt s) = true := by
    unfold okOf
    rw [e]
    simp [h2, h3]
  refine ⟨ho, ?_⟩
  unfold rsOf
  rw [if_pos ho, e]
theorem txt_lost {s : S} (h : (rowT s.1 && Cd.isL s.2) = false) : okOf (txt s) = false := by
  rw [txt_none h]
  decide
theorem rsOf_byte (t : ByteArray) : 0 ≤ (rsOf t).2 ∧ (rsOf t).2 ≤ 255 := by
  unfold rsOf
  split
  · exact ⟨Cd.bt_lo _ _, Cd.bt_hi _ _⟩
  · decide
end Pl
theorem read_any (t : ByteArray) (w : World) (hs : t.size ≤ 9223372036854775807) : Calls Tryd.prog 11 #[.string t] w (Pl.ReadR (Pl.rsOf t) (Pl.okOf t) w) := by
  by_cases h : 2 ≤ t.size ∧ t.size ≤ 3
  · refine read_core t w h.1 h.2 _ ?_ _ rfl
    unfold Pl.okOf
    rw [decide_eq_true h.1, decide_eq_true h.2]
    rfl
  · have ho : Pl.okOf t = false := by
      unfold Pl.okOf
      rw [Bool.and_eq_false_iff, Bool.and_eq_false_iff]
      simp only [decide_eq_false_iff_not]
      omega
    have hr : Pl.rsOf t = (0, 0) := by unfold Pl.rsOf; rw [ho]; rfl
    rw [ho, hr]
    exact read_out t w (by omega) hs
theorem rread_any (t : ByteArray) (w : World) (hs : t.size ≤ 9223372036854775807) : Calls Tryd.prog 12 #[.string t] w (Pl.ReadR (Pl.rsOf t) (Pl.okOf t) w) := by
  by_cases h : 2 ≤ t.size ∧ t.size ≤ 3
  · refine rread_core t w h.1 h.2 _ ?_ _ rfl
    unfold Pl.okOf
    rw [decide_eq_true h.1, decide_eq_true h.2]
    rfl
  · have ho : Pl.okOf t = false := by
      unfold Pl.okOf
      rw [Bool.and_eq_false_iff, Bool.and_eq_false_iff]
      simp only [decide_eq_false_iff_not]
      omega
    have hr : Pl.rsOf t = (0, 0) := by unfold Pl.rsOf; rw [ho]; rfl
    rw [ho, hr]
    exact rread_out t w (by omega) hs
set_option maxHeartbeats 2000000 in
set_option maxRecDepth 20000 in
theorem texts_core (w : World) (s1 s2 : Int) (t tx : ByteArray) (x1 x2 y1 y2 : Int) (okT okB : Bool)
    (HT : Hid (∀ W, Calls Tryd.prog 10 #[.agg #[.int .i64 s1, .int .u8 s2]] W fun e w' => e = .returned (.string tx) ∧ Below W.heap.size W w'))
    (HR : Hid (∀ W, Calls Tryd.prog 13 #[.agg #[.int .i64 s1, .int .u8 s2]] W fun e w' => e = .returned (.string tx) ∧ Below W.heap.size W w'))
    (H1 : Hid (∀ W, Calls Tryd.prog 11 #[.string t] W fun e w' => e = .returned (.tuple #[.agg #[.int .i64 x1, .int .u8 x2], .bool okT]) ∧ Below W.heap.size W w'))
    (H2 : Hid (∀ W, Calls Tryd.prog 12 #[.string t] W fun e w' => e = .returned (.tuple #[.agg #[.int .i64 x1, .int .u8 x2], .bool okT]) ∧ Below W.heap.size W w'))
    (H3 : Hid (∀ W, Calls Tryd.prog 11 #[.string tx] W fun e w' => e = .returned (.tuple #[.agg #[.int .i64 y1, .int .u8 y2], .bool okB]) ∧ Below W.heap.size W w'))
    (H4 : Hid (okT = true → ∀ W, Calls Tryd.prog 10 #[.agg #[.int .i64 x1, .int .u8 x2]] W fun e w' => e = .returned (.string t) ∧ Below W.heap.size W w'))
    (H5 : Hid (okB = true → y1 = s1 ∧ y2 = s2)) (H6 : Hid (tx.toList.isEmpty = !okB)) :
    Calls Tryd.prog 3 #[.agg #[.int .i64 s1, .int .u8 s2], .string t] w fun e w' => e = .returned (.bool true) ∧ Below w.heap.size w w' := by
  have hn := H6.out
  clear H6
  have HKS := Lib.hid (Rw.Blk.made w 23 [.int .i64 s1, .int .u8 s2])
  have HB0 : Hid (Below w.heap.size w (w.alloc (.cells #[.int .i64 s1, .int .u8 s2] 23))) := (Below.refl _ _).alloc (Nat.le_refl _) _
  have hs0 : w.heap.size ≤ (w.alloc (.cells #[.int .i64 s1, .int .u8 s2] 23)).heap.size := by simp
  cases okT with
  | false =>
    cases okB with
    | false =>
      go_enter Tryd.func3, Tryd.ntmps3
      go_wp2_with (first
        | (go_at_call 9; refine (awake_any _).mono ?_; rintro e w1 ⟨rfl, hb1⟩; have KS1 := HKS.out.below' hb1; have b01 := HB0.out.trans (hb1.mono hs0); have a0 : w1.cell? ⟨w.heap.size, 0, none⟩ = some (.int .i64 s1) := (KS1.cell 0).trans rfl; have a1 : w1.cell? ⟨w.heap.size, 1, none⟩ = some (.int .u8 s2) := (KS1.cell 1).trans rfl)
        | (go_at_call 10; refine (HT.out _).mono ?_; rintro e w2 ⟨rfl, hb2⟩; have KS2 := KS1.below' hb2; have b02 := b01.trans (hb2.mono b01.size))
        | (go_at_call 11; have hgd := KW; refine (H3.out _).mono ?_; rintro e w6 ⟨rfl, hb6⟩; have KS6 := KS5.below' hb6; have KX6 := KX5.below' hb6; have K6 := (Rw.Blk.made w6 23 [.int .i64 y1, .int .u8 y2]); have b6a : Below w6.heap.size w6 (w6.alloc (.cells #[.int .i64 y1, .int .u8 y2] 23)) := (Below.refl _ _).alloc (Nat.le_refl _) _; have b06 := b05.trans (hb6.mono b05.size); have b06a := b06.trans (b6a.mono b06.size); have f0 : (w6.alloc (.cells #[.int .i64 y1, .int .u8 y2] 23)).cell? ⟨w.heap.size, 0, none⟩ = some (.int .i64 s1) := ((KS6.below' b6a).cell 0).trans rfl; have f1 : (w6.alloc (.cells #[.int .i64 y1, .int .u8 y2] 23)).cell? ⟨w.heap.size, 1, none⟩ = some (.int .u8 s2) := ((KS6.below' b6a).cell 1).trans rfl; have g0 : (w6.alloc (.cells #[.int .i64 y1, .int .u8 y2] 23)).cell? ⟨w3.heap.size, 0, none⟩ = some (.int .i64 x1) := ((KX6.below' b6a).cell 0).trans rfl; have g1 : (w6.alloc (.cells #[.int .i64 y1, .int .u8 y2] 23)).cell? ⟨w3.heap.size, 1, none⟩ = some (.int .u8 x2) := ((KX6.below' b6a).cell 1).trans rfl)
        | (go_at_call 11; refine (H1.out _).mono ?_; rintro e w3 ⟨rfl, hb3⟩; have KS3 := KS2.below' hb3; have KX := (Rw.Blk.made w3 23 [.int .i64 x1, .int .u8 x2]); have b3a : Below w3.heap.size w3 (w3.alloc (.cells #[.int .i64 x1, .int .u8 x2] 23)) := (Below.refl _ _).alloc (Nat.le_refl _) _; have b03 := b02.trans (hb3.mono b02.size); have b03a := b03.trans (b3a.mono b03.size); have KS3a := KS3.below' b3a)
        | (go_at_call 12; refine (H2.out _).mono ?_; rintro e w4 ⟨rfl, hb4⟩; have KS4 := KS3a.below' hb4; have KX4 := KX.below' hb4; have KW := (Rw.Blk.made w4 23 [.int .i64 x1, .int .u8 x2]); have b4a : Below w4.heap.size w4 (w4.alloc (.cells #[.int .i64 x1, .int .u8 x2] 23)) := (Below.refl _ _).alloc (Nat.le_refl _) _; have b04 := b03a.trans (hb4.mono b03a.size); have b04a := b04.trans (b4a.mono b04.size); have KS4a := KS4.below' b4a; have KX4a := KX4.below' b4a; have c0 : (w4.alloc (.cells #[.int .i64 x1, .int .u8 x2] 23)).cell? ⟨w.heap.size, 0, none⟩ = some (.int .i64 s1) := (KS4a.cell 0).trans rfl; have c1 : (w4.alloc (.cells #[.int .i64 x1, .int .u8 x2] 23)).cell? ⟨w.heap.size, 1, none⟩ = some (.int .u8 s2) := (KS4a.cell 1).trans rfl)
        | (go_at_call 13; refine (HR.out _).mono ?_; rintro e w5 ⟨rfl, hb5⟩; have KS5 := KS4a.below' hb5; have KX5 := KX4a.below' hb5; have KW5 := KW.below' hb5; have b05 := b04a.trans (hb5.mono b04a.size); have d0 : w5.cell? ⟨w3.heap.size, 0, none⟩ = some (.int .i64 x1) := (KX5.cell 0).trans rfl; have d1 : w5.cell? ⟨w3.heap.size, 1, none⟩ = some (.int .u8 x2) := (KX5.cell 1).trans rfl; have e0 : w5.cell? ⟨w4.heap.size, 0, none⟩ = some (.int .i64 x1) := (KW5.cell 0).trans rfl; have e1 : w5.cell? ⟨w4.heap.size, 1, none⟩ = some (.int .u8 x2) := (KW5.cell 1).trans rfl))
      go_ret
      exact ⟨rfl, b06a⟩
    | true =>
      obtain ⟨e1, e2⟩ := H5.out (by trivial)
      replace e1 := e1.symm
      replace e2 := e2.symm
      subst e1 e2
      go_enter Tryd.func3, Tryd.ntmps3
      go_wp2_with (first
        | (go_at_call 9; refine (awake_any _).mono ?_; rintro e w1 ⟨rfl, hb1⟩; have KS1 := HKS.out.below' hb1; have b01 := HB0.out.trans (hb1.mono hs0); have a0 : w1.cell? ⟨w.heap.size, 0, none⟩ = some (.int .i64 s1) := (KS1.cell 0).trans rfl; have a1 : w1.cell? ⟨w.heap.size, 1, none⟩ = some (.int .u8 s2) := (KS1.cell 1).trans rfl)
        | (go_at_call 10; refine (HT.out _).mono ?_; rintro e w2 ⟨rfl, hb2⟩; have KS2 := KS1.below' hb2; have b02 := b01.trans (hb2.mono b01.size))
        | (go_at_call 11; have hgd := KW; refine (H3.out _).mono ?_; rintro e w6 ⟨rfl, hb6⟩; have KS6 := KS5.below' hb6; have KX6 := KX5.below' hb6; have K6 := (Rw.Blk.made w6 23 [.int .i64 s1, .int .u8 s2]); have b6a : Below w6.heap.size w6 (w6.alloc (.cells #[.int .i64 s1, .int .u8 s2] 23)) := (Below.refl _ _).alloc (Nat.le_refl _) _; have b06 := b05.trans (hb6.mono b05.size); have b06a := b06.trans (b6a.mono b06.size); have f0 : (w6.alloc (.cells #[.int .i64 s1, .int .u8 s2] 23)).cell? ⟨w.heap.size, 0, none⟩ = some (.int .i64 s1) := ((KS6.below' b6a).cell 0).trans rfl; have f1 : (w6.alloc (.cells #[.int .i64 s1, .int .u8 s2] 23)).cell? ⟨w.heap.size, 1, none⟩ = some (.int .u8 s2) := ((KS6.below' b6a).cell 1).trans rfl; have g0 : (w6.alloc (.cells #[.int .i64 s1, .int .u8 s2] 23)).cell? ⟨w3.heap.size, 0, none⟩ = some (.int .i64 x1) := ((KX6.below' b6a).cell 0).trans rfl; have g1 : (w6.alloc (.cells #[.int .i64 s1, .int .u8 s2] 23)).cell? ⟨w3.heap.size, 1, none⟩ = some (.int .u8 x2) := ((KX6.below' b6a).cell 1).trans rfl)
        | (go_at_call 11; refine (H1.out _).mono ?_; rintro e w3 ⟨rfl, hb3⟩; have KS3 := KS2.below' hb3; have KX := (Rw.Blk.made w3 23 [.int .i64 x1, .int .u8 x2]); have b3a : Below w3.heap.size w3 (w3.alloc (.cells #[.int .i64 x1, .int .u8 x2] 23)) := (Below.refl _ _).alloc (Nat.le_refl _) _; have b03 := b02.trans (hb3.mono b02.size); have b03a := b03.trans (b3a.mono b03.size); have KS3a := KS3.below' b3a)
        | (go_at_call 12; refine (H2.out _).mono ?_; rintro e w4 ⟨rfl, hb4⟩; have KS4 := KS3a.below' hb4; have KX4 := KX.below' hb4; have KW := (Rw.Blk.made w4 23 [.int .i64 x1, .int .u8 x2]); have b4a : Below w4.heap.size w4 (w4.alloc (.cells #[.int .i64 x1, .int .u8 x2] 23)) := (Below.refl _ _).alloc (Nat.le_refl _) _; have b04 := b03a.trans (hb4.mono b03a.size); have b04a := b04.trans (b4a.mono b04.size); have KS4a := KS4.below' b4a; have KX4a := KX4.below' b4a; have c0 : (w4.alloc (.cells #[.int .i64 x1, .int .u8 x2] 23)).cell? ⟨w.heap.size, 0, none⟩ = some (.int .i64 s1) := (KS4a.cell 0).trans rfl; have c1 : (w4.alloc (.cells #[.int .i64 x1, .int .u8 x2] 23)).cell? ⟨w.heap.size, 1, none⟩ = some (.int .u8 s2) := (KS4a.cell 1).trans rfl)
        | (go_at_call 13; refine (HR.out _).mono ?_; rintro e w5 ⟨rfl, hb5⟩; have KS5 := KS4a.below' hb5; have KX5 := KX4a.below' hb5; have KW5 := KW.below' hb5; have b05 := b04a.trans (hb5.mono b04a.size); have d0 : w5.cell? ⟨w3.heap.size, 0, none⟩ = some (.int .i64 x1) := (KX5.cell 0).trans rfl; have d1 : w5.cell? ⟨w3.heap.size, 1, none⟩ = some (.int .u8 x2) := (KX5.cell 1).trans rfl; have e0 : w5.cell? ⟨w4.heap.size, 0, none⟩ = some (.int .i64 x1) := (KW5.cell 0).trans rfl; have e1 : w5.cell? ⟨w4.heap.size, 1, none⟩ = some (.int .u8 x2) := (KW5.cell 1).trans rfl))
      go_ret
      exact ⟨rfl, b06a⟩
  | true =>
    have H4' := Lib.hid (H4.out (by trivial))
    cases okB with
    | false =>
      go_enter Tryd.func3, Tryd.ntmps3
      go_wp2_with (first
        | (go_at_call 9; refine (awake_any _).mono ?_; rintro e w1 ⟨rfl, hb1⟩; have KS1 := HKS.out.below' hb1; have b01 := HB0.out.trans (hb1.mono hs0); have a0 : w1.cell? ⟨w.heap.size, 0, none⟩ = some (.int .i64 s1) := (KS1.cell 0).trans rfl; have a1 : w1.cell? ⟨w.heap.size, 1, none⟩ = some (.int .u8 s2) := (KS1.cell 1).trans rfl)
        | (go_at_call 10; have hgd := K6; refine (H4'.out _).mono ?_; rintro e w7 ⟨rfl, hb7⟩; have b07 := b06a.trans (hb7.mono b06a.size))
        | (go_at_call 10; refine (HT.out _).mono ?_; rintro e w2 ⟨rfl, hb2⟩; have KS2 := KS1.below' hb2; have b02 := b01.trans (hb2.mono b01.size))
        | (go_at_call 11; have hgd := KW; refine (H3.out _).mono ?_; rintro e w6 ⟨rfl, hb6⟩; have KS6 := KS5.below' hb6; have KX6 := KX5.below' hb6; have K6 := (Rw.Blk.made w6 23 [.int .i64 y1, .int .u8 y2]); have b6a : Below w6.heap.size w6 (w6.alloc (.cells #[.int .i64 y1, .int .u8 y2] 23)) := (Below.refl _ _).alloc (Nat.le_refl _) _; have b06 := b05.trans (hb6.mono b05.size); have b06a := b06.trans (b6a.mono b06.size); have f0 : (w6.alloc (.cells #[.int .i64 y1, .int .u8 y2] 23)).cell? ⟨w.heap.size, 0, none⟩ = some (.int .i64 s1) := ((KS6.below' b6a).cell 0).trans rfl; have f1 : (w6.alloc (.cells #[.int .i64 y1, .int .u8 y2] 23)).cell? ⟨w.heap.size, 1, none⟩ = some (.int .u8 s2) := ((KS6.below' b6a).cell 1).trans rfl; have g0 : (w6.alloc (.cells #[.int .i64 y1, .int .u8 y2] 23)).cell? ⟨w3.heap.size, 0, none⟩ = some (.int .i64 x1) := ((KX6.below' b6a).cell 0).trans rfl; have g1 : (w6.alloc (.cells #[.int .i64 y1, .int .u8 y2] 23)).cell? ⟨w3.heap.size, 1, none⟩ = some (.int .u8 x2) := ((KX6.below' b6a).cell 1).trans rfl)
        | (go_at_call 11; refine (H1.out _).mono ?_; rintro e w3 ⟨rfl, hb3⟩; have KS3 := KS2.below' hb3; have KX := (Rw.Blk.made w3 23 [.int .i64 x1, .int .u8 x2]); have b3a : Below w3.heap.size w3 (w3.alloc (.cells #[.int .i64 x1, .int .u8 x2] 23)) := (Below.refl _ _).alloc (Nat.le_refl _) _; have b03 := b02.trans (hb3.mono b02.size); have b03a := b03.trans (b3a.mono b03.size); have KS3a := KS3.below' b3a)
        | (go_at_call 12; refine (H2.out _).mono ?_; rintro e w4 ⟨rfl, hb4⟩; have KS4 := KS3a.below' hb4; have KX4 := KX.below' hb4; have KW := (Rw.Blk.made w4 23 [.int .i64 x1, .int .u8 x2]); have b4a : Below w4.heap.size w4 (w4.alloc (.cells #[.int .i64 x1, .int .u8 x2] 23)) := (Below.refl _ _).alloc (Nat.le_refl _) _; have b04 := b03a.trans (hb4.mono b03a.size); have b04a := b04.trans (b4a.mono b04.size); have KS4a := KS4.below' b4a; have KX4a := KX4.below' b4a; have c0 : (w4.alloc (.cells #[.int .i64 x1, .int .u8 x2] 23)).cell? ⟨w.heap.size, 0, none⟩ = some (.int .i64 s1) := (KS4a.cell 0).trans rfl; have c1 : (w4.alloc (.cells #[.int .i64 x1, .int .u8 x2] 23)).cell? ⟨w.heap.size, 1, none⟩ = some (.int .u8 s2) := (KS4a.cell 1).trans rfl)
        | (go_at_call 13; refine (HR.out _).mono ?_; rintro e w5 ⟨rfl, hb5⟩; have KS5 := KS4a.below' hb5; have KX5 := KX4a.below' hb5; have KW5 := KW.below' hb5; have b05 := b04a.trans (hb5.mono b04a.size); have d0 : w5.cell? ⟨w3.heap.size, 0, none⟩ = some (.int .i64 x1) := (KX5.cell 0).trans rfl; have d1 : w5.cell? ⟨w3.heap.size, 1, none⟩ = some (.int .u8 x2) := (KX5.cell 1).trans rfl; have e0 : w5.cell? ⟨w4.heap.size, 0, none⟩ = some (.int .i64 x1) := (KW5.cell 0).trans rfl; have e1 : w5.cell? ⟨w4.heap.size, 1, none⟩ = some (.int .u8 x2) := (KW5.cell 1).trans rfl))
      go_ret
      exact ⟨rfl, b07⟩
    | true =>
      obtain ⟨e1, e2⟩ := H5.out (by trivial)
      replace e1 := e1.symm
      replace e2 := e2.symm
      subst e1 e2
      go_enter Tryd.func3, Tryd.ntmps3
      go_wp2_with (first
        | (go_at_call 9; refine (awake_any _).mono ?_; rintro e w1 ⟨rfl, hb1⟩; have KS1 := HKS.out.below' hb1; have b01 := HB0.out.trans (hb1.mono hs0); have a0 : w1.cell? ⟨w.heap.size, 0, none⟩ = some (.int .i64 s1) := (KS1.cell 0).trans rfl; have a1 : w1.cell? ⟨w.heap.size, 1, none⟩ = some (.int .u8 s2) := (KS1.cell 1).trans rfl)
        | (go_at_call 10; have hgd := K6; refine (H4'.out _).mono ?_; rintro e w7 ⟨rfl, hb7⟩; have b07 := b06a.trans (hb7.mono b06a.size))
        | (go_at_call 10; refine (HT.out _).mono ?_; rintro e w2 ⟨rfl, hb2⟩; have KS2 := KS1.below' hb2; have b02 := b01.trans (hb2.mono b01.size))
        | (go_at_call 11; have hgd := KW; refine (H3.out _).mono ?_; rintro e w6 ⟨rfl, hb6⟩; have KS6 := KS5.below' hb6; have KX6 := KX5.below' hb6; have K6 := (Rw.Blk.made w6 23 [.int .i64 s1, .int .u8 s2]); have b6a : Below w6.heap.size w6 (w6.alloc (.cells #[.int .i64 s1, .int .u8 s2] 23)) := (Below.refl _ _).alloc (Nat.le_refl _) _; have b06 := b05.trans (hb6.mono b05.size); have b06a := b06.trans (b6a.mono b06.size); have f0 : (w6.alloc (.cells #[.int .i64 s1, .int .u8 s2] 23)).cell? ⟨w.heap.size, 0, none⟩ = some (.int .i64 s1) := ((KS6.below' b6a).cell 0).trans rfl; have f1 : (w6.alloc (.cells #[.int .i64 s1, .int .u8 s2] 23)).cell? ⟨w.heap.size, 1, none⟩ = some (.int .u8 s2) := ((KS6.below' b6a).cell 1).trans rfl; have g0 : (w6.alloc (.cells #[.int .i64 s1, .int .u8 s2] 23)).cell? ⟨w3.heap.size, 0, none⟩ = some (.int .i64 x1) := ((KX6.below' b6a).cell 0).trans rfl; have g1 : (w6.alloc (.cells #[.int .i64 s1, .int .u8 s2] 23)).cell? ⟨w3.heap.size, 1, none⟩ = some (.int .u8 x2) := ((KX6.below' b6a).cell 1).trans rfl)
        | (go_at_call 11; refine (H1.out _).mono ?_; rintro e w3 ⟨rfl, hb3⟩; have KS3 := KS2.below' hb3; have KX := (Rw.Blk.made w3 23 [.int .i64 x1, .int .u8 x2]); have b3a : Below w3.heap.size w3 (w3.alloc (.cells #[.int .i64 x1, .int .u8 x2] 23)) := (Below.refl _ _).alloc (Nat.le_refl _) _; have b03 := b02.trans (hb3.mono b02.size); have b03a := b03.trans (b3a.mono b03.size); have KS3a := KS3.below' b3a)
        | (go_at_call 12; refine (H2.out _).mono ?_; rintro e w4 ⟨rfl, hb4⟩; have KS4 := KS3a.below' hb4; have KX4 := KX.below' hb4; have KW := (Rw.Blk.made w4 23 [.int .i64 x1, .int .u8 x2]); have b4a : Below w4.heap.size w4 (w4.alloc (.cells #[.int .i64 x1, .int .u8 x2] 23)) := (Below.refl _ _).alloc (Nat.le_refl _) _; have b04 := b03a.trans (hb4.mono b03a.size); have b04a := b04.trans (b4a.mono b04.size); have KS4a := KS4.below' b4a; have KX4a := KX4.below' b4a; have c0 : (w4.alloc (.cells #[.int .i64 x1, .int .u8 x2] 23)).cell? ⟨w.heap.size, 0, none⟩ = some (.int .i64 s1) := (KS4a.cell 0).trans rfl; have c1 : (w4.alloc (.cells #[.int .i64 x1, .int .u8 x2] 23)).cell? ⟨w.heap.size, 1, none⟩ = some (.int .u8 s2) := (KS4a.cell 1).trans rfl)
        | (go_at_call 13; refine (HR.out _).mono ?_; rintro e w5 ⟨rfl, hb5⟩; have KS5 := KS4a.below' hb5; have KX5 := KX4a.below' hb5; have KW5 := KW.below' hb5; have b05 := b04a.trans (hb5.mono b04a.size); have d0 : w5.cell? ⟨w3.heap.size, 0, none⟩ = some (.int .i64 x1) := (KX5.cell 0).trans rfl; have d1 : w5.cell? ⟨w3.heap.size, 1, none⟩ = some (.int .u8 x2) := (KX5.cell 1).trans rfl; have e0 : w5.cell? ⟨w4.heap.size, 0, none⟩ = some (.int .i64 x1) := (KW5.cell 0).trans rfl; have e1 : w5.cell? ⟨w4.heap.size, 1, none⟩ = some (.int .u8 x2) := (KW5.cell 1).trans rfl))
      go_ret
      exact ⟨rfl, b07⟩
end Go.Proofs.YtonfkonjkgalhaaDoor
