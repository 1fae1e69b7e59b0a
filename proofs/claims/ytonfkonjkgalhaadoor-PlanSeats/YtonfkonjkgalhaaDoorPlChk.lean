/- Contracts of Check and what it calls. -/
import Derived.Test.YtonfkonjkgalhaaDoorPlMem
import Derived.Deep.RegionHeld3
namespace Go.Proofs.YtonfkonjkgalhaaDoor
open Go.RowKit
set_option linter.unusedVariables false

namespace Pl
/-- Are these letters, behind n of them, the greatest g, a point ahead or not, right to their end? -/
def lf : List Int → Nat → Int → Bool → Bool
  | [], _, _, a => !a
  | c :: l, n, g, a => if c = 46 then (if a then false else lf l n g true) else if Cd.isL c && decide (g < c) && decide (n ≠ 10) then lf l (n + 1) c false else false
def lettersOk (s : ByteArray) : Bool := lf (Cd.bs s) 0 0 true
theorem drop_bt (s : ByteArray) (k : Nat) (h : k < s.size) : (Cd.bs s).drop k = Cd.bt s k :: (Cd.bs s).drop (k + 1) := by
  have hl : k < (Cd.bs s).length := by rw [Cd.length_bs]; exact h
  rw [List.drop_eq_getElem_cons hl]
  congr 1
  unfold Cd.bt
  rw [List.getD_eq_getElem?_getD, List.getElem?_eq_getElem hl]
  rfl
theorem drop_end (s : ByteArray) (k : Nat) (h : s.size ≤ k) : (Cd.bs s).drop k = [] := by
  rw [List.drop_eq_nil_iff, Cd.length_bs]; exact h
def exOk (p : P) (k : Nat) : Bool := inRow p (gI p.ex k) && (decide (k = 0) || decide (gI p.ex (k - 1) < gI p.ex k))
def exitsOk (p : P) : Bool := (List.range p.ex.length).all (exOk p)
def blOk (p : P) (k : Nat) : Bool := place p (gR p.bl k, gC p.bl k) && (decide (k = 0) || lss (gR p.bl (k - 1), gC p.bl (k - 1)) (gR p.bl k, gC p.bl k))
def blockedOk (p : P) : Bool := decide (p.bl.length ≤ 40) && (List.range p.bl.length).all (blOk p)
def right (p : P) : Bool := rowsOk p && lettersOk p.lt && exitsOk p && blockedOk p
def code (p : P) : Int := if right p then 0 else 4
theorem range_no {n k : Nat} {f : Nat → Bool} (h : k < n) (hk : f k = false) : (List.range n).all f = false := by
  rw [List.all_eq_false]
  exact ⟨k, by simpa using h, by simp [hk]⟩
theorem range_yes {n : Nat} {f : Nat → Bool} (h : ∀ j, j < n → f j = true) : (List.range n).all f = true := by
  simp only [List.all_eq_true, List.mem_range]
  exact h
end Pl

set_option maxHeartbeats 1000000 in
theorem rightLetters_any (s : ByteArray) (w : World) (hs : s.size ≤ 9223372036854775807) :
    Calls Tryd.prog 42 #[.string s] w fun e w' => e = .returned (.bool (Pl.lettersOk s)) ∧ w = w' := by
  have hb := Cd.get_bt s
  have H0 : Hid (Pl.lettersOk s = Pl.lf ((Cd.bs s).drop 0) 0 0 true) := show _ = _ by rfl
  generalize Pl.lettersOk s = res at *
  go_enter Tryd.func42, Tryd.ntmps42
  go_wp2
  go_loop [3, 4, 5, 10] (fun vn vg va i => ∃ (k n : Nat) (g : Int) (a : Bool), k ≤ s.size ∧ i = .int .i64 k ∧ vn = .int .i64 n ∧ vg = .int .u8 g ∧ va = .bool a ∧ n ≤ 10 ∧ Hid (res = Pl.lf ((Cd.bs s).drop k) n g a)) (fun _ _ _ i => s.size - (intOf i).toNat)
  case atStart => exact ⟨0, 0, 0, true, by omega, rfl, rfl, rfl, rfl, by omega, H0⟩
  case round =>
    obtain ⟨k, n, g, a, hk, rfl, rfl, rfl, rfl, hn, HK⟩ := hrel
    clear H0
    by_cases hlt : k < s.size
    · have hst := HK.out
      rw [Pl.drop_bt s k hlt] at hst
      unfold Pl.lf at hst
      by_cases hc : Cd.bt s k = 46
      · rw [if_pos hc] at hst
        cases a with
        | true =>
          have HN := Lib.hid hst
          clear hst HK
          go_wp2
          go_ret
          exact ⟨Pl.ret_bool HN.out.symm, rfl⟩
        | false =>
          have HN : Hid (res = Pl.lf ((Cd.bs s).drop (k + 1)) n g true) := hst
          clear hst HK
          go_wp2
          go_round
          case rel => exact ⟨k + 1, n, g, true, by omega, by go_num, rfl, rfl, rfl, hn, HN⟩
          case measure => simp [intOf]; omega
      · rw [if_neg hc] at hst
        cases hL : Cd.isL (Cd.bt s k) with
        | false =>
          rw [hL] at hst
          have HN : Hid (res = false) := hst
          clear hst HK
          go_wp2_with (go_at_call 35; refine (isLetter_any _ _).mono ?_; rintro e w' ⟨rfl, rfl⟩)
          go_ret
          exact ⟨Pl.ret_bool HN.out.symm, rfl⟩
        | true =>
          rw [hL] at hst
          have h65 : 65 ≤ Cd.bt s k := by simp [Cd.isL] at hL; exact hL.1
          clear hc
          by_cases hg : g < Cd.bt s k
          · by_cases h10 : n = 10
            · have HN : Hid (res = false) := by simp [h10] at hst; exact hst
              subst h10
              clear hst HK
              go_wp2_with (go_at_call 35; refine (isLetter_any _ _).mono ?_; rintro e w' ⟨rfl, rfl⟩)
              go_ret
              exact ⟨Pl.ret_bool HN.out.symm, rfl⟩
            · have HN : Hid (res = Pl.lf ((Cd.bs s).drop (k + 1)) (n + 1) (Cd.bt s k) false) := by simp [h10, hg] at hst; exact hst
              have h11 : n < 10 := by omega
              have h12 : ((n : Int) == 10) = false := by simp; omega
              have h13 : (Cd.bt s k == 46) = false := by simp; omega
              clear hst HK h10
              go_wp2_with (go_at_call 35; refine (isLetter_any _ _).mono ?_; rintro e w' ⟨rfl, rfl⟩)
              all_goals first
                | exact ⟨⟨k + 1, n + 1, _, false, by omega, by go_num, by go_num, rfl, rfl, by omega, HN⟩, by simp [intOf]; omega⟩
                | (exfalso; omega)
                | (go_round <;> first | exact ⟨k + 1, n + 1, _, false, by omega, by go_num, by go_num, rfl, rfl, by omega, HN⟩ | (simp [intOf]; omega))
          · have HN : Hid (res = false) := by simp [hg] at hst; exact hst
            clear hst HK
            go_wp2_with (go_at_call 35; refine (isLetter_any _ _).mono ?_; rintro e w' ⟨rfl, rfl⟩)
            go_ret
            exact ⟨Pl.ret_bool HN.out.symm, rfl⟩
    · have hst := HK.out
      rw [Pl.drop_end s k (by omega)] at hst
      have HN : Hid (res = !a) := hst
      clear hst HK
      go_wp2
      go_ret
      exact ⟨Pl.ret_bool HN.out.symm, rfl⟩

set_option maxHeartbeats 1000000 in
theorem rightExits_any (r : Pl.R) (B : Nat) (w : World) (hw : Pl.Wf r) (h : Pl.Ints w B r.eA r.p.ex) (hB : B ≤ w.heap.size) :
    Calls Tryd.prog 43 #[Pl.pv r] w fun e w' => e = .returned (.bool (Pl.exitsOk r.p)) ∧ Below w.heap.size w w' := by
  have HY : Hid ((∀ j, j < r.p.ex.length → Pl.exOk r.p j = true) → Pl.exitsOk r.p = true) := fun hk => Pl.range_yes hk
  have HNo : Hid (∀ k, k < r.p.ex.length → Pl.exOk r.p k = false → Pl.exitsOk r.p = false) := fun k => Pl.range_no
  have HO : Hid (∀ k, Pl.exOk r.p k = (Pl.inRow r.p (Pl.gI r.p.ex k) && (decide (k = 0) || decide (Pl.gI r.p.ex (k - 1) < Pl.gI r.p.ex k)))) := fun _ => rfl
  have HR := Lib.hid (fun n w => hasRow_any r n w)
  have hel := hw.e
  generalize Pl.exitsOk r.p = res at *
  generalize Pl.exOk r.p = ok at *
  generalize hir : Pl.inRow r.p = ir at *
  clear hir hw
  obtain ⟨⟨fr, la, lt, ex, bl⟩, eA, ec, bA, bc⟩ := r
  unfold Pl.pv at *
  simp only at *
  have HI := Lib.hid h
  clear h
  obtain ⟨w1, ew1⟩ : ∃ w1, w1 = w.alloc (.cells #[.int .i64 fr, .int .i64 la, .string lt, .slice eA ex.length ec, .slice bA bl.length bc] 32) := ⟨_, rfl⟩
  have hb0 : Below w.heap.size w w1 := by rw [ew1]; exact (Below.refl w.heap.size w).alloc (Nat.le_refl _) _
  have hz1 : w.heap.size < w1.heap.size := by rw [ew1]; simp
  have p0 : w1.cell? ⟨w.heap.size, 0, none⟩ = some (.int .i64 fr) := by rw [ew1]; exact (cell_of_row _ _ _ _ _ _ (heap_alloc_new w _)).trans rfl
  have p1 : w1.cell? ⟨w.heap.size, 1, none⟩ = some (.int .i64 la) := by rw [ew1]; exact (cell_of_row _ _ _ _ _ _ (heap_alloc_new w _)).trans rfl
  have p2 : w1.cell? ⟨w.heap.size, 2, none⟩ = some (.string lt) := by rw [ew1]; exact (cell_of_row _ _ _ _ _ _ (heap_alloc_new w _)).trans rfl
  have p3 : w1.cell? ⟨w.heap.size, 3, none⟩ = some (.slice eA ex.length ec) := by rw [ew1]; exact (cell_of_row _ _ _ _ _ _ (heap_alloc_new w _)).trans rfl
  have p4 : w1.cell? ⟨w.heap.size, 4, none⟩ = some (.slice bA bl.length bc) := by rw [ew1]; exact (cell_of_row _ _ _ _ _ _ (heap_alloc_new w _)).trans rfl
  go_enter Tryd.func43, Tryd.ntmps43
  go_wp2
  rw [← ew1]
  clear ew1
  go_loopw [8] (fun i wr => ∃ k : Nat, k ≤ ex.length ∧ i = .int .i64 k ∧ Hid (∀ j, j < k → ok j = true) ∧ Below w1.heap.size w1 wr) (fun i _ => ex.length - (intOf i).toNat)
  case atStart => exact ⟨0, by omega, rfl, fun j hj => absurd hj (by omega), Below.refl _ _⟩
  case round =>
    obtain ⟨k, hk, rfl, HK, hbr⟩ := hrel
    by_cases hlt : k < ex.length
    · obtain ⟨b, off, hA, hb, hc⟩ := HI.out (by omega)
      subst hA
      have hbb : b < w1.heap.size := by omega
      have c0 : wr.cell? ⟨b, off + k, none⟩ = some (.int .i64 (Pl.gI ex k)) := ((hbr.cell (p := ⟨b, off + k, none⟩) hbb).trans (hb0.cell (p := ⟨b, off + k, none⟩) (by show b < _; omega))).trans (hc k hlt)
      have q0 := (hbr.cell (p := ⟨w.heap.size, 0, none⟩) hz1).trans p0
      have q1 := (hbr.cell (p := ⟨w.heap.size, 1, none⟩) hz1).trans p1
      have q2 := (hbr.cell (p := ⟨w.heap.size, 2, none⟩) hz1).trans p2
      have q3 := (hbr.cell (p := ⟨w.heap.size, 3, none⟩) hz1).trans p3
      have q4 := (hbr.cell (p := ⟨w.heap.size, 4, none⟩) hz1).trans p4
      have hon := HO.out k
      have hno := HNo.out k hlt
      have HRk := Lib.hid (HR.out (Pl.gI ex k) wr)
      cases hL : ir (Pl.gI ex k) with
      | false =>
        have HN := Lib.hid (hno (by rw [hon, hL]; rfl))
        rw [hL] at HRk
        clear hno hon
        go_wp2_with (go_at_call 50; refine HRk.out.mono ?_; rintro e w2 ⟨rfl, hb2⟩)
        go_ret
        exact ⟨Pl.ret_bool HN.out.symm, hb0.trans ((hbr.trans (hb2.mono hbr.size)).mono (by omega))⟩
      | true =>
        rw [hL] at HRk hon
        by_cases h0 : k = 0
        · have HN : Hid (∀ j, j < k + 1 → ok j = true) := fun j hj => by
            rw [show j = k by omega, hon, decide_eq_true h0]; rfl
          have hd : decide (0 < (k : Int)) = false := by simp; omega
          have hd2 : decide (0 < k) = false := by simp; omega
          clear hno hon h0
          go_wp2_with (go_at_call 50; refine HRk.out.mono ?_; rintro e w2 ⟨rfl, hb2⟩)
          go_roundw
          case rel => exact ⟨k + 1, by omega, by go_num, HN, hbr.trans (hb2.mono hbr.size)⟩
          case measure => simp [intOf]; omega
        · rw [decide_eq_false h0] at hon
          obtain ⟨m, hm⟩ : ∃ m, k - 1 = m := ⟨_, rfl⟩
          rw [hm] at hon
          have hm2 : m < ex.length := by omega
          have cm : wr.cell? ⟨b, off + m, none⟩ = some (.int .i64 (Pl.gI ex m)) := ((hbr.cell (p := ⟨b, off + m, none⟩) hbb).trans (hb0.cell (p := ⟨b, off + m, none⟩) (by show b < _; omega))).trans (hc m hm2)
          have hw1 : (k : Int) - 1 = (m : Int) := by omega
          have hw2 : IntKind.i64.wrap (m : Int) = (m : Int) := IntWalk.i64_in _ (by omega)
          by_cases h5 : Pl.gI ex m < Pl.gI ex k
          · have HN : Hid (∀ j, j < k + 1 → ok j = true) := fun j hj => by
              rcases Nat.lt_or_ge j k with hj' | hj'
              · exact HK.out j hj'
              · rw [show j = k by omega, hon, decide_eq_true h5]; rfl
            clear hno hon
            go_wp2_with (go_at_call 50; refine HRk.out.mono ?_; rintro e w2 ⟨rfl, hb2⟩; have k2 := hbr.trans (hb2.mono hbr.size); have s3 := (hb2.cell (p := ⟨w.heap.size, 3, none⟩) (by have := hbr.size; show w.heap.size < _; omega)).trans q3; have sm := (hb2.cell (p := ⟨b, off + m, none⟩) (by have := hbr.size; show b < _; omega)).trans cm)
            go_roundw
            case rel => exact ⟨k + 1, by omega, by go_num, HN, k2⟩
            case measure => simp [intOf]; omega
          · have HN := Lib.hid (hno (by rw [hon, decide_eq_false h5]; rfl))
            clear hno hon
            go_wp2_with (go_at_call 50; refine HRk.out.mono ?_; rintro e w2 ⟨rfl, hb2⟩; have k2 := hbr.trans (hb2.mono hbr.size); have s3 := (hb2.cell (p := ⟨w.heap.size, 3, none⟩) (by have := hbr.size; show w.heap.size < _; omega)).trans q3; have sm := (hb2.cell (p := ⟨b, off + m, none⟩) (by have := hbr.size; show b < _; omega)).trans cm)
            go_ret
            exact ⟨Pl.ret_bool HN.out.symm, hb0.trans (k2.mono (by omega))⟩
    · go_wp2
      go_ret
      exact ⟨Pl.ret_bool (HY.out (fun j hj => HK.out j (by omega))).symm, hb0.trans (hbr.mono (by omega))⟩
end Go.Proofs.YtonfkonjkgalhaaDoor
