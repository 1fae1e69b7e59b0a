/- Contract of writeAll; what a log is in memory. -/
import Derived.Test.YtogkaoiiddhdbaaCur
namespace Go.Proofs.Ytogkaoiiddhdbaa
open Go.RowKit

namespace Dk
theorem burn_left {s : S} (h : 0 ≤ s.left) : 0 ≤ s.burn.left ∧ s.burn.left ≤ s.left := by
  unfold S.burn
  split
  · omega
  · split
    · exact ⟨h, Int.le_refl _⟩
    · simp only; omega
theorem write_left {s : S} {i : Int} {l : List UInt8} (h : 0 ≤ s.left) : 0 ≤ (s.write i l).left ∧ (s.write i l).left ≤ s.left := by
  have := burn_left h
  unfold S.write
  split
  · omega
  · split
    · omega
    · split
      · omega
      · exact this
theorem write_wait {s : S} {i : Int} {l : List UInt8} : (s.write i l).wait.length ≤ s.wait.length + 1 := by
  unfold S.write
  split
  · omega
  · split
    · omega
    · split
      · omega
      · simp [S.put, burn_wait]
theorem burn_n (s : S) : s.burn.n = s.n := by unfold S.burn; split <;> (try split) <;> rfl
theorem write_n {s : S} {i : Int} {l : List UInt8} : (s.write i l).n = s.n := by
  unfold S.write
  split
  · rfl
  · split
    · rfl
    · split
      · rfl
      · exact burn_n s
theorem flush_n (s : S) : s.flush.n = s.n := by
  unfold S.flush
  split
  · rfl
  · split
    · exact burn_n s
    · exact burn_n s
theorem flush_left {s : S} (h : 0 ≤ s.left) : 0 ≤ s.flush.left ∧ s.flush.left ≤ s.left := by
  have := burn_left h
  unfold S.flush
  split
  · omega
  · split
    · exact this
    · exact this
theorem flush_wait (s : S) : s.flush.wait.length ≤ s.wait.length := by
  unfold S.flush
  split
  · omega
  · split
    · rw [burn_wait]; omega
    · simp [S.done]
/-- The numbers of a disk are within bounds. -/
structure Ok (s : S) (m : Nat) : Prop where
  n0 : 4 ≤ s.n
  n1 : s.n ≤ 4096
  l0 : 0 ≤ s.left
  l1 : s.left ≤ 9223372036854775807
  ww : s.wait.length ≤ m
end Dk
namespace Wl
theorem layAll_facts : ∀ (l : List (List UInt8)) (s : Dk.S) (a : Nat), 0 ≤ s.left → (layAll s a l).1.n = s.n ∧ 0 ≤ (layAll s a l).1.left ∧ (layAll s a l).1.left ≤ s.left ∧ (layAll s a l).1.wait.length ≤ s.wait.length + l.length
  | [], s, a, h => ⟨rfl, h, Int.le_refl _, by simp [layAll]⟩
  | b :: r, s, a, h => by
    have h1 := Dk.write_left (i := (a : Int)) (l := b) h
    have h2 := Dk.write_wait (s := s) (i := (a : Int)) (l := b)
    have h3 := Dk.write_n (s := s) (i := (a : Int)) (l := b)
    unfold layAll
    split
    · have := layAll_facts r (s.write a b) (a + 1) h1.1
      rw [List.length_cons]
      refine ⟨this.1.trans h3, this.2.1, by omega, by omega⟩
    · rw [List.length_cons]
      exact ⟨h3, h1.1, h1.2, by simp only; omega⟩
theorem lay_facts (l : List (List UInt8)) (s : Dk.S) (a : Nat) (h : 0 ≤ s.left) : (lay s a l).1.n = s.n ∧ 0 ≤ (lay s a l).1.left ∧ (lay s a l).1.left ≤ s.left ∧ (lay s a l).1.wait.length ≤ s.wait.length + l.length := by
  obtain ⟨h1, h2, h3, h4⟩ := layAll_facts l s a h
  unfold lay
  split
  · have h5 := Dk.flush_left h2
    have h6 := Dk.flush_wait (layAll s a l).1
    have h7 := Dk.flush_n (layAll s a l).1
    exact ⟨h7.trans h1, h5.1, by simp only; omega, by simp only; omega⟩
  · exact ⟨h1, h2, h3, h4⟩
theorem layAll_cons_ok {s : Dk.S} {a : Nat} {b : List UInt8} {r : List (List UInt8)} (h : s.wcode (a : Int) b.length = 0) : layAll s a (b :: r) = layAll (s.write (a : Int) b) (a + 1) r := by
  rw [layAll, if_pos h]
theorem layAll_cons_no {s : Dk.S} {a : Nat} {b : List UInt8} {r : List (List UInt8)} (h : s.wcode (a : Int) b.length ≠ 0) : layAll s a (b :: r) = (s.write (a : Int) b, s.wcode (a : Int) b.length) := by
  rw [layAll, if_neg h]
end Wl

set_option maxHeartbeats 400000 in
theorem writeAll_any (w : World) (p : Nat) (F : Nat → Prop) (s : Dk.S) (a : Nat) (A : Option Addr) (ps : List (List UInt8)) (c : Nat) (G : Nat → Prop) (hD : Dk.Dsk w p F s) (hP : Wl.Prts w G A ps) (hdj : ∀ k, G k → ¬ F k) (hl : ∀ x ∈ ps, x.length = 512)
    (ha : a + ps.length ≤ 100000) (hw : s.wait.length + ps.length < 100000) (hl0 : 0 ≤ s.left) (hl1 : s.left ≤ 9223372036854775807) :
    Calls Try.prog 77 #[.pointer (some ⟨p, 0, none⟩), .int .i64 (a : Int), .slice A ps.length c] w fun e w' => e = .returned (.int .i64 (Wl.layAll s a ps).2) ∧ Hid (Dk.Gone w F w' p (Wl.layAll s a ps).1) := by
  have HP := Lib.hid hP.lt
  have HDJ := Lib.hid hdj
  have HL := Lib.hid hl
  have H0 : Hid (Dk.Gone w F w p s) := Dk.Gone.same hD
  clear hD hP hdj hl
  generalize hr : Wl.layAll s a ps = R
  have HR := Lib.hid hr
  clear hr
  go_enter Try.func77, Try.ntmps77
  go_wp2
  go_loopw [12] (fun i wr => ∃ (j : Nat) (sj : Dk.S), j ≤ ps.length ∧ i = .int .i64 j ∧ Hid (Wl.layAll sj (a + j) (ps.drop j) = R) ∧ Hid (Dk.Gone w F wr p sj) ∧ sj.wait.length ≤ s.wait.length + j ∧ 0 ≤ sj.left ∧ sj.left ≤ s.left) (fun i _ => ps.length - (intOf i).toNat)
  case atStart => exact ⟨0, s, by omega, rfl, HR, H0, by omega, hl0, by omega⟩
  case round =>
    obtain ⟨j, sj, hj, rfl, HE, HG, hwj, hlj0, hlj1⟩ := hrel
    by_cases hlt : j < ps.length
    · obtain ⟨F', hD', hM⟩ := HG.out
      have hPr : Wl.Prts wr (fun k => G k ∧ k < w.heap.size) A ps := HP.out.kept (fun k hk => hM.1.block k hk.2 (HDJ.out k hk.1))
      obtain ⟨b, off, A', c', rfl, _, hc, hB, _, _⟩ := hPr.at_ j hlt
      have hlen := HL.out _ (List.getElem_mem hlt)
      have hdj' : ∀ k, (G k ∧ k < w.heap.size) → ¬ F' k := fun k hk hF => by
        rcases hM.2 k hF with h | h
        · exact HDJ.out k hk.1 h
        · omega
      have hW := write_any wr p F' sj ((a + j : Nat) : Int) A' ps[j] c' _ hD' hB hdj' (by omega) hlj0 (by omega)
      have HW : Hid (Calls Try.prog 29 #[.pointer (some ⟨p, 0, none⟩), .int .i64 ((a : Int) + (j : Int)), .slice A' 512 c'] wr fun e w' => e = .returned (.int .i64 (sj.wcode ((a + j : Nat) : Int) ps[j].length)) ∧ Hid (Dk.Gone w F w' p (sj.write ((a + j : Nat) : Int) ps[j]))) := by
        rw [show ((a : Int) + (j : Int)) = ((a + j : Nat) : Int) by omega, hlen]
        rw [hlen] at hW
        exact hW.mono fun e w' ⟨h1, h2⟩ => ⟨h1, by
          obtain ⟨F'', hD'', hM''⟩ := h2.out
          exact ⟨F'', hD'', hM.trans hM''⟩⟩
      rw [hlen] at hc
      have hE := HE.out
      rw [List.drop_eq_getElem_cons hlt] at hE
      have hb1 := Dk.write_left (i := ((a + j : Nat) : Int)) (l := ps[j]) hlj0
      have hb2 := Dk.write_wait (s := sj) (i := ((a + j : Nat) : Int)) (l := ps[j])
      clear hW hdj' hB hPr hD' hM
      by_cases hz : sj.wcode ((a + j : Nat) : Int) ps[j].length = 0
      · rw [Wl.layAll_cons_ok hz] at hE
        have HE2 := Lib.hid hE
        rw [hz] at HW
        clear hz hE HE HG
        generalize sj.write ((a + j : Nat) : Int) ps[j] = s2 at *
        go_wp2_with (go_at_call 29; refine HW.out.mono ?_; rintro e w1 ⟨rfl, HG1⟩)
        go_roundw
        case rel => exact ⟨j + 1, s2, by omega, by go_num, HE2, HG1, by omega, by omega, by omega⟩
        case measure => simp [intOf]; omega
      · rw [Wl.layAll_cons_no hz] at hE
        have HE2 := Lib.hid hE
        generalize hcd : sj.wcode ((a + j : Nat) : Int) ps[j].length = cd at *
        have hzb : (cd != 0) = true := bne_iff_ne.2 hz
        clear hz hE HE HG hcd
        go_wp2_with (go_at_call 29; refine HW.out.mono ?_; rintro e w1 ⟨rfl, HG1⟩)
        go_ret
        rw [← HE2.out]
        exact ⟨rfl, HG1⟩
    · have hE := HE.out
      rw [List.drop_eq_nil_of_le (by omega)] at hE
      have HE2 := Lib.hid hE
      clear hE HE
      go_wp2
      go_ret
      rw [← HE2.out]
      exact ⟨rfl, HG⟩
end Go.Proofs.Ytogkaoiiddhdbaa
