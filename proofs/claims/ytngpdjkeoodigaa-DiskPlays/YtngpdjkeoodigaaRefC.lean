/- Contracts of the document's next, joined, Cut, Fuse, Flush. -/
import Derived.Test.YtngpdjkeoodigaaRefB
namespace Go.Proofs.Ytngpdjkeoodigaa
open Go.RowKit

namespace Dk
def R.next (r : R) : R := if r.down = true then r else if r.armed = true ∧ r.after = 0 then { r with down := true, armed := false } else if r.armed = true then { r with after := r.after - 1 } else r
def R.done (r : R) : Bool := if r.down = true then false else if r.armed = true ∧ r.after = 0 then false else true
theorem RR.of {w : World} {r r' : R} {sv wv : Value} (h : RR w r sv wv) (e1 : r'.safe = r.safe) (e2 : r'.wait = r.wait) : RR w r' sv wv := by
  unfold RR at *
  rw [e1, e2]
  exact h
theorem next_rows (r : R) : r.next.safe = r.safe ∧ r.next.wait = r.wait := by
  unfold R.next
  split
  · exact ⟨rfl, rfl⟩
  · split
    · exact ⟨rfl, rfl⟩
    · split <;> exact ⟨rfl, rfl⟩
theorem len_zero30 : zero30.length = 6 := rfl
theorem RR.fr {w' : World} {r : R} {sv wv : Value} {B : Nat} {w0 : World} (h : RR w0 r sv wv) (hB : B = w0.heap.size) (hb : Below B w0 w') : RR w' r sv wv := by subst hB; exact h.below hb
end Dk
set_option maxHeartbeats 1000000 in
theorem rnext (w : World) (r : Dk.R) (sv wv : Value) (h : Dk.RR w r sv wv) (ha : 0 ≤ r.after ∧ r.after ≤ 9223372036854775807) :
    Calls Try.prog 40 #[Dk.rv r sv wv] w fun e w' => e = .returned (.tuple #[Dk.rv r.next sv wv, .bool r.done]) ∧ Below w.heap.size w w' := by
  have H := Lib.hid h
  clear h
  obtain ⟨ha0, ha1⟩ := ha
  unfold Dk.R.next Dk.R.done
  by_cases hd : r.down = true
  · rw [if_pos hd, if_pos hd]
    go_enter Try.func40, Try.ntmps40
    go_wp2_with (first
      | (refine Dk.wpList_box30 rfl _ rfl r sv wv rfl ?_; intro w1 hr1 hb1 hs1)
      | (refine Dk.wpList_alloc rfl 30 rfl _ (Dk.z30 _) ?_; intro w2 hg2 hb2 hs2; have R2 := Lib.hid (hr1.below hb2); have c4 := R2.out.c4; rw [hd] at c4; have hb12 := hb1.trans (hb2.mono hb1.size))
      | (refine Dk.wpList_load30 rfl _ rfl w.heap.size rfl r sv wv R2.out ?_)
      | (refine Dk.wpList_store30 rfl _ _ rfl w1.heap.size rfl r sv wv rfl _ hg2 rfl (H.out.fr rfl hb12) ?_; intro w3 hr3 hf3))
    refine bodyPost_ret (Dk.res_cell_tmp rfl _ _ w1.heap.size r sv wv rfl hr3) rfl ?_
    exact ⟨rfl, hb12.trans (hf3.below hb12.size (fun k hk => by omega))⟩
  · rw [if_neg hd, if_neg hd]
    have hd' : r.down = false := by simpa using hd
    by_cases hz : r.armed = true ∧ r.after = 0
    · rw [if_pos hz, if_pos hz]
      obtain ⟨hz1, hz2⟩ := hz
      go_enter Try.func40, Try.ntmps40
      go_wp2_with (first
        | (refine Dk.wpList_box30 rfl _ rfl r sv wv rfl ?_; intro w1 hr1 hb1 hs1)
        | (refine Dk.wpList_alloc rfl 30 rfl _ (Dk.z30 _) ?_; intro w2 hg2 hb2 hs2; have R2 := Lib.hid (hr1.below hb2); have c4 := R2.out.c4; have c3 := R2.out.c3; have c5 := R2.out.c5; have f3 := R2.out.free 3; have f4 := R2.out.free 4; rw [hd'] at c4; rw [hz1] at c3; rw [hz2] at c5; have hb12 := hb1.trans (hb2.mono hb1.size); have R3 := Lib.hid (R2.out.set 4 (.bool true) { r with down := true } sv wv rfl); have R4 := Lib.hid (R3.out.set 3 (.bool false) { r with down := true, armed := false } sv wv rfl); have hb4 := (hb12.setCell (p := ⟨w.heap.size, 4, none⟩) (Nat.le_refl _) (.bool true)).setCell (p := ⟨w.heap.size, 3, none⟩) (Nat.le_refl _) (.bool false); have G4 := Lib.hid ((Below.heap_setCell (w2.setCell ⟨w.heap.size, 4, none⟩ (.bool true)) ⟨w.heap.size, 3, none⟩ (.bool false) w1.heap.size (by show w1.heap.size ≠ w.heap.size; omega)).trans ((Below.heap_setCell w2 ⟨w.heap.size, 4, none⟩ (.bool true) w1.heap.size (by show w1.heap.size ≠ w.heap.size; omega)).trans hg2)))
        | (refine Dk.wpList_load30 rfl _ rfl w.heap.size rfl { r with down := true, armed := false } sv wv R4.out ?_)
        | (refine Dk.wpList_store30 rfl _ _ rfl w1.heap.size rfl { r with down := true, armed := false } sv wv rfl _ G4.out rfl ((H.out.fr rfl hb4).of rfl rfl) ?_; intro w3 hr3 hf3))
      refine bodyPost_ret (Dk.res_cell_tmp rfl _ _ w1.heap.size { r with down := true, armed := false } sv wv rfl hr3) rfl ?_
      exact ⟨rfl, hb4.trans (hf3.below hb4.size (fun k hk => by omega))⟩
    · rw [if_neg hz, if_neg hz]
      by_cases hz1 : r.armed = true
      · rw [if_pos hz1]
        have hz2 : r.after ≠ 0 := fun h => hz ⟨hz1, h⟩
        have hz3 : (r.after == 0) = false := beq_eq_false_iff_ne.2 hz2
        clear hz
        go_enter Try.func40, Try.ntmps40
        go_wp2_with (first
          | (refine Dk.wpList_box30 rfl _ rfl r sv wv rfl ?_; intro w1 hr1 hb1 hs1)
          | (refine Dk.wpList_alloc rfl 30 rfl _ (Dk.z30 _) ?_; intro w2 hg2 hb2 hs2; have R2 := Lib.hid (hr1.below hb2); have c4 := R2.out.c4; have c3 := R2.out.c3; have c5 := R2.out.c5; have f5 := R2.out.free 5; rw [hd'] at c4; rw [hz1] at c3; have hb12 := hb1.trans (hb2.mono hb1.size); have R4 := Lib.hid (R2.out.set 5 (.int .i64 (r.after - 1)) { r with after := r.after - 1 } sv wv rfl); have hb4 := hb12.setCell (p := ⟨w.heap.size, 5, none⟩) (Nat.le_refl _) (.int .i64 (r.after - 1)); have G4 := Lib.hid ((Below.heap_setCell w2 ⟨w.heap.size, 5, none⟩ (.int .i64 (r.after - 1)) w1.heap.size (by show w1.heap.size ≠ w.heap.size; omega)).trans hg2))
          | (refine Dk.wpList_load30 rfl _ rfl w.heap.size rfl { r with after := r.after - 1 } sv wv R4.out ?_)
          | (refine Dk.wpList_store30 rfl _ _ rfl w1.heap.size rfl { r with after := r.after - 1 } sv wv rfl _ G4.out rfl ((H.out.fr rfl hb4).of rfl rfl) ?_; intro w3 hr3 hf3))
        refine bodyPost_ret (Dk.res_cell_tmp rfl _ _ w1.heap.size { r with after := r.after - 1 } sv wv rfl hr3) rfl ?_
        exact ⟨rfl, hb4.trans (hf3.below hb4.size (fun k hk => by omega))⟩
      · rw [if_neg hz1]
        have hz1' : r.armed = false := by simpa using hz1
        clear hz
        go_enter Try.func40, Try.ntmps40
        go_wp2_with (first
          | (refine Dk.wpList_box30 rfl _ rfl r sv wv rfl ?_; intro w1 hr1 hb1 hs1)
          | (refine Dk.wpList_alloc rfl 30 rfl _ (Dk.z30 _) ?_; intro w2 hg2 hb2 hs2; have R2 := Lib.hid (hr1.below hb2); have c4 := R2.out.c4; have c3 := R2.out.c3; rw [hd'] at c4; rw [hz1'] at c3; have hb12 := hb1.trans (hb2.mono hb1.size))
          | (refine Dk.wpList_load30 rfl _ rfl w.heap.size rfl r sv wv R2.out ?_)
          | (refine Dk.wpList_store30 rfl _ _ rfl w1.heap.size rfl r sv wv rfl _ hg2 rfl (H.out.fr rfl hb12) ?_; intro w3 hr3 hf3))
        refine bodyPost_ret (Dk.res_cell_tmp rfl _ _ w1.heap.size r sv wv rfl hr3) rfl ?_
        exact ⟨rfl, hb12.trans (hf3.below hb12.size (fun k hk => by omega))⟩
theorem rcut (w : World) (r : Dk.R) (sv wv : Value) (h : Dk.RR w r sv wv) :
    Calls Try.prog 30 #[Dk.rv r sv wv] w fun e w' => e = .returned (Dk.rv { r with down := true, armed := false } sv wv) ∧ Below w.heap.size w w' := by
  have H := Lib.hid h
  clear h
  go_enter Try.func30, Try.ntmps30
  go_wp2_with (first
    | (refine Dk.wpList_box30 rfl _ rfl r sv wv rfl ?_; intro w1 hr1 hb1 hs1)
    | (refine Dk.wpList_alloc rfl 30 rfl _ (Dk.z30 _) ?_; intro w2 hg2 hb2 hs2; have R2 := Lib.hid (hr1.below hb2); have c4 := R2.out.c4; have c3 := R2.out.c3; have f3 := R2.out.free 3; have f4 := R2.out.free 4; have hb12 := hb1.trans (hb2.mono hb1.size); have R3 := Lib.hid (R2.out.set 4 (.bool true) { r with down := true } sv wv rfl); have R4 := Lib.hid (R3.out.set 3 (.bool false) { r with down := true, armed := false } sv wv rfl); have hb4 := (hb12.setCell (p := ⟨w.heap.size, 4, none⟩) (Nat.le_refl _) (.bool true)).setCell (p := ⟨w.heap.size, 3, none⟩) (Nat.le_refl _) (.bool false); have G4 := Lib.hid ((Below.heap_setCell (w2.setCell ⟨w.heap.size, 4, none⟩ (.bool true)) ⟨w.heap.size, 3, none⟩ (.bool false) w1.heap.size (by show w1.heap.size ≠ w.heap.size; omega)).trans ((Below.heap_setCell w2 ⟨w.heap.size, 4, none⟩ (.bool true) w1.heap.size (by show w1.heap.size ≠ w.heap.size; omega)).trans hg2)))
    | (refine Dk.wpList_load30 rfl _ rfl w.heap.size rfl { r with down := true, armed := false } sv wv R4.out ?_)
    | (refine Dk.wpList_store30 rfl _ _ rfl w1.heap.size rfl { r with down := true, armed := false } sv wv rfl _ G4.out rfl ((H.out.fr rfl hb4).of rfl rfl) ?_; intro w3 hr3 hf3))
  refine bodyPost_ret (Dk.res_cell rfl _ _ w1.heap.size { r with down := true, armed := false } sv wv rfl hr3) rfl ?_
  exact ⟨rfl, hb4.trans (hf3.below hb4.size (fun k hk => by omega))⟩
namespace Dk
def R.fuse (r : R) (k : Int) : R := if k < 0 then r else if r.down = true then r else { r with armed := true, after := k }
def R.fuseCode (r : R) (k : Int) : Int := if k < 0 then 1 else if r.down = true then 3 else 0
end Dk
set_option maxHeartbeats 1000000 in
theorem rfuse (w : World) (r : Dk.R) (sv wv : Value) (k : Int) (h : Dk.RR w r sv wv) :
    Calls Try.prog 29 #[Dk.rv r sv wv, .int .i64 k] w fun e w' => e = .returned (.tuple #[Dk.rv (r.fuse k) sv wv, .int .i64 (r.fuseCode k)]) ∧ Below w.heap.size w w' := by
  have H := Lib.hid h
  clear h
  unfold Dk.R.fuse Dk.R.fuseCode
  by_cases hk : k < 0
  · rw [if_pos hk, if_pos hk]
    go_enter Try.func29, Try.ntmps29
    go_wp2_with (first
      | (refine Dk.wpList_box30 rfl _ rfl r sv wv rfl ?_; intro w1 hr1 hb1 hs1)
      | (refine Dk.wpList_alloc rfl 30 rfl _ (Dk.z30 _) ?_; intro w2 hg2 hb2 hs2; have R2 := Lib.hid (hr1.below hb2); have hb12 := hb1.trans (hb2.mono hb1.size))
      | (refine Dk.wpList_load30 rfl _ rfl w.heap.size rfl r sv wv R2.out ?_)
      | (refine Dk.wpList_store30 rfl _ _ rfl w1.heap.size rfl r sv wv rfl _ hg2 rfl (H.out.fr rfl hb12) ?_; intro w3 hr3 hf3))
    refine bodyPost_ret (Dk.res_cell_tmp rfl _ _ w1.heap.size r sv wv rfl hr3) rfl ?_
    exact ⟨rfl, hb12.trans (hf3.below hb12.size (fun k hk => by omega))⟩
  · rw [if_neg hk, if_neg hk]
    by_cases hd : r.down = true
    · rw [if_pos hd, if_pos hd]
      go_enter Try.func29, Try.ntmps29
      go_wp2_with (first
        | (refine Dk.wpList_box30 rfl _ rfl r sv wv rfl ?_; intro w1 hr1 hb1 hs1)
        | (refine Dk.wpList_alloc rfl 30 rfl _ (Dk.z30 _) ?_; intro w2 hg2 hb2 hs2; have R2 := Lib.hid (hr1.below hb2); have c4 := R2.out.c4; rw [hd] at c4; have hb12 := hb1.trans (hb2.mono hb1.size))
        | (refine Dk.wpList_load30 rfl _ rfl w.heap.size rfl r sv wv R2.out ?_)
        | (refine Dk.wpList_store30 rfl _ _ rfl w1.heap.size rfl r sv wv rfl _ hg2 rfl (H.out.fr rfl hb12) ?_; intro w3 hr3 hf3))
      refine bodyPost_ret (Dk.res_cell_tmp rfl _ _ w1.heap.size r sv wv rfl hr3) rfl ?_
      exact ⟨rfl, hb12.trans (hf3.below hb12.size (fun k hk => by omega))⟩
    · rw [if_neg hd, if_neg hd]
      have hd' : r.down = false := by simpa using hd
      go_enter Try.func29, Try.ntmps29
      go_wp2_with (first
        | (refine Dk.wpList_box30 rfl _ rfl r sv wv rfl ?_; intro w1 hr1 hb1 hs1)
        | (refine Dk.wpList_alloc rfl 30 rfl _ (Dk.z30 _) ?_; intro w2 hg2 hb2 hs2; have R2 := Lib.hid (hr1.below hb2); have c4 := R2.out.c4; have c3 := R2.out.c3; have c5 := R2.out.c5; have f3 := R2.out.free 3; have f5 := R2.out.free 5; rw [hd'] at c4; have hb12 := hb1.trans (hb2.mono hb1.size); have R3 := Lib.hid (R2.out.set 3 (.bool true) { r with armed := true } sv wv rfl); have R4 := Lib.hid (R3.out.set 5 (.int .i64 k) { r with armed := true, after := k } sv wv rfl); have hb4 := (hb12.setCell (p := ⟨w.heap.size, 3, none⟩) (Nat.le_refl _) (.bool true)).setCell (p := ⟨w.heap.size, 5, none⟩) (Nat.le_refl _) (.int .i64 k); have G4 := Lib.hid ((Below.heap_setCell (w2.setCell ⟨w.heap.size, 3, none⟩ (.bool true)) ⟨w.heap.size, 5, none⟩ (.int .i64 k) w1.heap.size (by show w1.heap.size ≠ w.heap.size; omega)).trans ((Below.heap_setCell w2 ⟨w.heap.size, 3, none⟩ (.bool true) w1.heap.size (by show w1.heap.size ≠ w.heap.size; omega)).trans hg2)))
        | (refine Dk.wpList_load30 rfl _ rfl w.heap.size rfl { r with armed := true, after := k } sv wv R4.out ?_)
        | (refine Dk.wpList_store30 rfl _ _ rfl w1.heap.size rfl { r with armed := true, after := k } sv wv rfl _ G4.out rfl ((H.out.fr rfl hb4).of rfl rfl) ?_; intro w3 hr3 hf3))
      refine bodyPost_ret (Dk.res_cell_tmp rfl _ _ w1.heap.size { r with armed := true, after := k } sv wv rfl hr3) rfl ?_
      exact ⟨by rw [hd']; rfl, hb4.trans (hf3.below hb4.size (fun k hk => by omega))⟩
end Go.Proofs.Ytngpdjkeoodigaa
