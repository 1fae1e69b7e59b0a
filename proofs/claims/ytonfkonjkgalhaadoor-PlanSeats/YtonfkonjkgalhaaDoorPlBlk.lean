/- Contracts of rightBlocked and Check. -/
import Derived.Test.YtonfkonjkgalhaaDoorPlChk
namespace Go.Proofs.YtonfkonjkgalhaaDoor
open Go.RowKit
set_option linter.unusedVariables false

namespace Pl
/-- The cells of a plan at g. -/
def Pc (r : R) (g : Nat) (w : World) : Prop :=
  w.cell? ⟨g, 0, none⟩ = some (.int .i64 r.p.fr) ∧ w.cell? ⟨g, 1, none⟩ = some (.int .i64 r.p.la) ∧ w.cell? ⟨g, 2, none⟩ = some (.string r.p.lt) ∧ w.cell? ⟨g, 3, none⟩ = some (.slice r.eA r.p.ex.length r.ec) ∧ w.cell? ⟨g, 4, none⟩ = some (.slice r.bA r.p.bl.length r.bc)
theorem Pc.new (r : R) (w : World) : Pc r w.heap.size (w.alloc (.cells #[.int .i64 r.p.fr, .int .i64 r.p.la, .string r.p.lt, .slice r.eA r.p.ex.length r.ec, .slice r.bA r.p.bl.length r.bc] 32)) :=
  have h := heap_alloc_new w (.cells #[.int .i64 r.p.fr, .int .i64 r.p.la, .string r.p.lt, .slice r.eA r.p.ex.length r.ec, .slice r.bA r.p.bl.length r.bc] 32)
  ⟨(cell_of_row _ _ _ _ _ _ h).trans rfl, (cell_of_row _ _ _ _ _ _ h).trans rfl, (cell_of_row _ _ _ _ _ _ h).trans rfl, (cell_of_row _ _ _ _ _ _ h).trans rfl, (cell_of_row _ _ _ _ _ _ h).trans rfl⟩
theorem Pc.below {r : R} {g B : Nat} {w w' : World} (h : Pc r g w) (hb : Below B w w') (hg : g < B) : Pc r g w' :=
  ⟨(hb.cell (p := ⟨g, 0, none⟩) hg).trans h.1, (hb.cell (p := ⟨g, 1, none⟩) hg).trans h.2.1, (hb.cell (p := ⟨g, 2, none⟩) hg).trans h.2.2.1, (hb.cell (p := ⟨g, 3, none⟩) hg).trans h.2.2.2.1, (hb.cell (p := ⟨g, 4, none⟩) hg).trans h.2.2.2.2⟩
/-- The cells of a seat at g, off. -/
def Sc (s : S) (g off : Nat) (w : World) : Prop := w.cell? ⟨g, off, none⟩ = some (.int .i64 s.1) ∧ w.cell? ⟨g, off + 1, none⟩ = some (.int .u8 s.2)
theorem Sc.new (s : S) (w : World) : Sc s w.heap.size 0 (w.alloc (.cells #[.int .i64 s.1, .int .u8 s.2] 23)) :=
  have h := heap_alloc_new w (.cells #[.int .i64 s.1, .int .u8 s.2] 23)
  ⟨(cell_of_row _ _ _ _ _ _ h).trans rfl, (cell_of_row _ _ _ _ _ _ h).trans rfl⟩
theorem Sc.below {s : S} {g off B : Nat} {w w' : World} (h : Sc s g off w) (hb : Below B w w') (hg : g < B) : Sc s g off w' :=
  ⟨(hb.cell (p := ⟨g, off, none⟩) hg).trans h.1, (hb.cell (p := ⟨g, off + 1, none⟩) hg).trans h.2⟩
end Pl

set_option maxHeartbeats 2000000 in
set_option maxRecDepth 20000 in
theorem rightBlocked_any (r : Pl.R) (B : Nat) (w : World) (hw : Pl.Wf r) (h : Pl.Sts w B r.bA r.p.bl) (hB : B ≤ w.heap.size) :
    Calls Tryd.prog 44 #[Pl.pv r] w fun e w' => e = .returned (.bool (Pl.blockedOk r.p)) ∧ Below w.heap.size w w' := by
  by_cases h40 : r.p.bl.length ≤ 40
  case neg =>
    have HN : Hid (Pl.blockedOk r.p = false) := show _ = _ by rw [Pl.blockedOk, decide_eq_false h40]; rfl
    have hel := hw.b
    obtain ⟨⟨fr, la, lt, ex, bl⟩, eA, ec, bA, bc⟩ := r
    unfold Pl.pv
    simp only at *
    have hbe := (Below.refl w.heap.size w).alloc (Nat.le_refl _) (.cells #[.int .i64 fr, .int .i64 la, .string lt, .slice eA ex.length ec, .slice bA bl.length bc] 32)
    go_enter Tryd.func44, Tryd.ntmps44
    go_wp2
    go_ret
    exact ⟨Pl.ret_bool HN.out.symm, hbe⟩
  have HY : Hid ((∀ j, j < r.p.bl.length → Pl.blOk r.p j = true) → Pl.blockedOk r.p = true) := fun hk => by rw [Pl.blockedOk, decide_eq_true h40, Pl.range_yes hk]; rfl
  have HNo : Hid (∀ k, k < r.p.bl.length → Pl.blOk r.p k = false → Pl.blockedOk r.p = false) := fun k hk hf => by rw [Pl.blockedOk, Pl.range_no hk hf, Bool.and_false]
  have HO : Hid (∀ k, Pl.blOk r.p k = (Pl.place r.p (Pl.gR r.p.bl k, Pl.gC r.p.bl k) && (decide (k = 0) || Pl.lss (Pl.gR r.p.bl (k - 1), Pl.gC r.p.bl (k - 1)) (Pl.gR r.p.bl k, Pl.gC r.p.bl k)))) := fun _ => rfl
  have HR : Hid (∀ k w, k < r.p.bl.length → Calls Tryd.prog 51 #[Pl.pv r, Pl.sv (Pl.gR r.p.bl k, Pl.gC r.p.bl k)] w fun e w' => e = .returned (.bool (Pl.place r.p (Pl.gR r.p.bl k, Pl.gC r.p.bl k))) ∧ Below w.heap.size w w') := fun k w hk => by
    have := hw.c (r.p.bl[k]) (List.getElem_mem hk)
    rw [Pl.gS _ _ hk] at this
    exact hasPlace_any r _ w this.1 this.2
  have HPN := Lib.hid (Pl.Pc.new r w)
  have hel := hw.b
  generalize Pl.blockedOk r.p = res at *
  generalize Pl.blOk r.p = ok at *
  generalize hir : Pl.place r.p = ir at *
  clear hir hw
  obtain ⟨⟨fr, la, lt, ex, bl⟩, eA, ec, bA, bc⟩ := r
  unfold Pl.pv at *
  unfold Pl.Pc at *
  unfold Pl.sv at *
  simp only at *
  have HI := Lib.hid h
  clear h
  obtain ⟨w1, ew1⟩ : ∃ w1, w1 = w.alloc (.cells #[.int .i64 fr, .int .i64 la, .string lt, .slice eA ex.length ec, .slice bA bl.length bc] 32) := ⟨_, rfl⟩
  have hb0 : Below w.heap.size w w1 := by rw [ew1]; exact (Below.refl w.heap.size w).alloc (Nat.le_refl _) _
  have hz1 : w.heap.size < w1.heap.size := by rw [ew1]; simp
  rw [← ew1] at HPN
  go_enter Tryd.func44, Tryd.ntmps44
  go_wp2
  rw [← ew1]
  clear ew1
  go_loopw [12] (fun i wr => ∃ k : Nat, k ≤ bl.length ∧ i = .int .i64 k ∧ Hid (∀ j, j < k → ok j = true) ∧ Below w1.heap.size w1 wr) (fun i _ => bl.length - (intOf i).toNat)
  case atStart => exact ⟨0, by omega, rfl, fun j hj => absurd hj (by omega), Below.refl _ _⟩
  case round =>
    obtain ⟨k, hk, rfl, HK, hbr⟩ := hrel
    by_cases hlt : k < bl.length
    · obtain ⟨b, off, hA, hb, hc⟩ := HI.out (by omega)
      subst hA
      have hbb : b < w1.heap.size := by omega
      have cc : ∀ j, j < bl.length → wr.cell? ⟨b, off + j * 2, none⟩ = some (.int .i64 (Pl.gR bl j)) ∧ wr.cell? ⟨b, off + j * 2 + 1, none⟩ = some (.int .u8 (Pl.gC bl j)) := fun j hj =>
        ⟨((hbr.cell (p := ⟨b, off + j * 2, none⟩) hbb).trans (hb0.cell (p := ⟨b, off + j * 2, none⟩) (by show b < _; omega))).trans (hc j hj).1, ((hbr.cell (p := ⟨b, off + j * 2 + 1, none⟩) hbb).trans (hb0.cell (p := ⟨b, off + j * 2 + 1, none⟩) (by show b < _; omega))).trans (hc j hj).2⟩
      obtain ⟨c0, c1⟩ := cc k hlt
      have HCC := Lib.hid cc
      have hon := HO.out k
      have hno := HNo.out k hlt
      have HRk := Lib.hid (fun w => HR.out k w hlt)
      have hzr := hbr.size
      clear cc hc
      obtain ⟨wx, ewx⟩ : ∃ wx, wx = wr.alloc (.cells #[.int .i64 (Pl.gR bl k), .int .u8 (Pl.gC bl k)] 23) := ⟨_, rfl⟩
      have hzx : wx.heap.size = wr.heap.size + 1 := by rw [ewx]; simp
      have bax : Below wr.heap.size wr wx := by rw [ewx]; exact (Below.refl _ _).alloc (Nat.le_refl _) _
      have HSN : Hid (Pl.Sc (Pl.gR bl k, Pl.gC bl k) wr.heap.size 0 wx) := by rw [ewx]; exact Pl.Sc.new (Pl.gR bl k, Pl.gC bl k) wr
      have HS : Hid (∀ w', Below wx.heap.size wx w' →
          (w'.cell? ⟨w.heap.size, 0, none⟩ = some (.int .i64 fr) ∧ w'.cell? ⟨w.heap.size, 1, none⟩ = some (.int .i64 la) ∧ w'.cell? ⟨w.heap.size, 2, none⟩ = some (.string lt) ∧ w'.cell? ⟨w.heap.size, 3, none⟩ = some (.slice eA ex.length ec) ∧ w'.cell? ⟨w.heap.size, 4, none⟩ = some (.slice (some ⟨b, off, none⟩) bl.length bc)) ∧ (w'.cell? ⟨wr.heap.size, 0, none⟩ = some (.int .i64 (Pl.gR bl k)) ∧ w'.cell? ⟨wr.heap.size, 1, none⟩ = some (.int .u8 (Pl.gC bl k))) ∧
          (∀ j, j < bl.length → w'.cell? ⟨b, off + j * 2, none⟩ = some (.int .i64 (Pl.gR bl j)) ∧ w'.cell? ⟨b, off + j * 2 + 1, none⟩ = some (.int .u8 (Pl.gC bl j)))) := fun w' hbx => by
        have bx : Below wr.heap.size wr w' := bax.trans (hbx.mono (by omega))
        refine ⟨?_, ?_, fun j hj => ⟨(bx.cell (p := ⟨b, off + j * 2, none⟩) (by show b < _; omega)).trans (HCC.out j hj).1, (bx.cell (p := ⟨b, off + j * 2 + 1, none⟩) (by show b < _; omega)).trans (HCC.out j hj).2⟩⟩
        · exact Pl.Pc.below (r := ⟨⟨fr, la, lt, ex, bl⟩, eA, ec, some ⟨b, off, none⟩, bc⟩) (Pl.Pc.below (r := ⟨⟨fr, la, lt, ex, bl⟩, eA, ec, some ⟨b, off, none⟩, bc⟩) HPN.out hbr hz1) bx (by omega)
        · exact Pl.Sc.below HSN.out hbx (by omega)
      have HBw : Hid (∀ w', Below wx.heap.size wx w' → Below w1.heap.size w1 w') := fun w' hbx =>
        hbr.trans ((bax.trans (hbx.mono (by omega))).mono hzr)
      cases hL : ir (Pl.gR bl k, Pl.gC bl k) with
      | false =>
        have HN := Lib.hid (hno (by rw [hon, hL]; rfl))
        rw [hL] at HRk
        clear hno hon
        go_wp2
        rw [← ewx]
        clear ewx
        refine wp_region_noPanic ?_
        refine wp_region_held_drew (S := fun w' => ((w'.cell? ⟨w.heap.size, 0, none⟩ = some (.int .i64 fr) ∧ w'.cell? ⟨w.heap.size, 1, none⟩ = some (.int .i64 la) ∧ w'.cell? ⟨w.heap.size, 2, none⟩ = some (.string lt) ∧ w'.cell? ⟨w.heap.size, 3, none⟩ = some (.slice eA ex.length ec) ∧ w'.cell? ⟨w.heap.size, 4, none⟩ = some (.slice (some ⟨b, off, none⟩) bl.length bc)) ∧ (w'.cell? ⟨wr.heap.size, 0, none⟩ = some (.int .i64 (Pl.gR bl k)) ∧ w'.cell? ⟨wr.heap.size, 1, none⟩ = some (.int .u8 (Pl.gC bl k))))) (by kernel_rfl) ⟨(HS.out _ (Below.refl _ _).drew).1, (HS.out _ (Below.refl _ _).drew).2.1⟩ (fun hHeld => ?_)
        refine wpAnyH_take (i := 0) (oi := ⟨some 17, _, _, _, _, _⟩) (v := ?_) rfl (by kernel_rfl) (by kernel_rfl) (by kernel_rfl) (fun _ _ _ h => h) (Or.inl ⟨by rfl, ?_⟩) (by assumption) ?_
        rotate_left
        · (intro w hSw; (try dsimp only at hSw); obtain ⟨⟨s0, s1, s2, s3, s4⟩, s5, s6⟩ := hSw; go_simp <;> with_reducible rfl)
        try simp only [Act.put]
        try simp only [List.setIfInBounds_toArray]
        try simp only [List.set_cons_succ]
        try simp only [List.set_cons_zero]
        refine wpAnyH_take (i := 1) (oi := ⟨some 18, _, _, _, _, _⟩) (v := ?_) rfl (by kernel_rfl) (by kernel_rfl) (by kernel_rfl) (fun _ _ _ h => h) (Or.inl ⟨by rfl, ?_⟩) (by assumption) ?_
        rotate_left
        · (intro w hSw; (try dsimp only at hSw); obtain ⟨⟨s0, s1, s2, s3, s4⟩, s5, s6⟩ := hSw; go_simp <;> with_reducible rfl)
        try simp only [Act.put]
        try simp only [List.setIfInBounds_toArray]
        try simp only [List.set_cons_succ]
        try simp only [List.set_cons_zero]
        refine wpAnyH_ready (rs := [2]) (by kernel_rfl) (by simp) ?_
        refine AllReadyH.cons (o := ⟨some 19, _, _, _, _, _⟩) rfl (fun K hK => ?_) AllReadyH.nil
        go_simp
        go_at_call 51
        refine (HRk.out _).mono ?_
        rintro e w2 ⟨rfl, hb2⟩
        have hb3 : Below wx.heap.size wx w2 := (Below.refl _ _).drew.trans hb2
        go_wp2_with fail
        refine hK.out _ _ ?_ (fun hHeld2 => ?_)
        · exact ⟨(HS.out _ hb3).1, (HS.out _ hb3).2.1⟩
        clear hK K
        try simp only [Act.put]
        try simp only [List.setIfInBounds_toArray]
        try simp only [List.set_cons_succ]
        try simp only [List.set_cons_zero]
        refine wpAnyH_take (i := 3) (oi := ⟨some 20, _, _, _, _, _⟩) (v := ?_) rfl (by kernel_rfl) (by kernel_rfl) (by kernel_rfl) (fun _ _ _ h => h) (Or.inl ⟨by rfl, ?_⟩) (by assumption) ?_
        rotate_left
        · (intro w hSw; (try dsimp only at hSw); obtain ⟨⟨s0, s1, s2, s3, s4⟩, s5, s6⟩ := hSw; go_simp <;> with_reducible rfl)
        try simp only [Act.put]
        try simp only [List.setIfInBounds_toArray]
        try simp only [List.set_cons_succ]
        try simp only [List.set_cons_zero]
        refine wpAnyH_take (i := 4) (oi := ⟨some 21, _, _, _, _, _⟩) (v := ?_) rfl (by kernel_rfl) (by kernel_rfl) (by kernel_rfl) (fun _ _ _ h => h) (Or.inl ⟨by rfl, ?_⟩) (by assumption) ?_
        rotate_left
        · (intro w hSw; (try dsimp only at hSw); obtain ⟨⟨s0, s1, s2, s3, s4⟩, s5, s6⟩ := hSw; go_simp <;> with_reducible rfl)
        try simp only [Act.put]
        try simp only [List.setIfInBounds_toArray]
        try simp only [List.set_cons_succ]
        try simp only [List.set_cons_zero]
        refine wpAnyH_take (i := 5) (oi := ⟨some 22, _, _, _, _, _⟩) (v := undef) rfl (by kernel_rfl) (by kernel_rfl) (by kernel_rfl) (fun _ _ _ h => h) (Or.inr ⟨by rfl, rfl⟩) (by assumption) ?_
        try simp only [Act.put]
        try simp only [List.setIfInBounds_toArray]
        try simp only [List.set_cons_succ]
        try simp only [List.set_cons_zero]
        refine wpAnyH_take (i := 6) (oi := ⟨some 23, _, _, _, _, _⟩) (v := undef) rfl (by kernel_rfl) (by kernel_rfl) (by kernel_rfl) (fun _ _ _ h => h) (Or.inr ⟨by rfl, rfl⟩) (by assumption) ?_
        try simp only [Act.put]
        try simp only [List.setIfInBounds_toArray]
        try simp only [List.set_cons_succ]
        try simp only [List.set_cons_zero]
        refine wpAnyH_take (i := 7) (oi := ⟨some 24, _, _, _, _, _⟩) (v := undef) rfl (by kernel_rfl) (by kernel_rfl) (by kernel_rfl) (fun _ _ _ h => h) (Or.inr ⟨by rfl, rfl⟩) (by assumption) ?_
        try simp only [Act.put]
        try simp only [List.setIfInBounds_toArray]
        try simp only [List.set_cons_succ]
        try simp only [List.set_cons_zero]
        refine wpAnyH_take (i := 8) (oi := ⟨some 25, _, _, _, _, _⟩) (v := undef) rfl (by kernel_rfl) (by kernel_rfl) (by kernel_rfl) (fun _ _ _ h => h) (Or.inr ⟨by rfl, rfl⟩) (by assumption) ?_
        try simp only [Act.put]
        try simp only [List.setIfInBounds_toArray]
        try simp only [List.set_cons_succ]
        try simp only [List.set_cons_zero]
        refine wpAnyH_take (i := 9) (oi := ⟨some 26, _, _, _, _, _⟩) (v := undef) rfl (by kernel_rfl) (by kernel_rfl) (by kernel_rfl) (fun _ _ _ h => h) (Or.inr ⟨by rfl, rfl⟩) (by assumption) ?_
        try simp only [Act.put]
        try simp only [List.setIfInBounds_toArray]
        try simp only [List.set_cons_succ]
        try simp only [List.set_cons_zero]
        refine wpAnyH_take (i := 10) (oi := ⟨some 27, _, _, _, _, _⟩) (v := undef) rfl (by kernel_rfl) (by kernel_rfl) (by kernel_rfl) (fun _ _ _ h => h) (Or.inr ⟨by rfl, rfl⟩) (by assumption) ?_
        try simp only [Act.put]
        try simp only [List.setIfInBounds_toArray]
        try simp only [List.set_cons_succ]
        try simp only [List.set_cons_zero]
        refine wpAnyH_take (i := 11) (oi := ⟨some 28, _, _, _, _, _⟩) (v := undef) rfl (by kernel_rfl) (by kernel_rfl) (by kernel_rfl) (fun _ _ _ h => h) (Or.inr ⟨by rfl, rfl⟩) (by assumption) ?_
        try simp only [Act.put]
        try simp only [List.setIfInBounds_toArray]
        try simp only [List.set_cons_succ]
        try simp only [List.set_cons_zero]
        refine wpAnyH_take (i := 12) (oi := ⟨some 29, _, _, _, _, _⟩) (v := undef) rfl (by kernel_rfl) (by kernel_rfl) (by kernel_rfl) (fun _ _ _ h => h) (Or.inr ⟨by rfl, rfl⟩) (by assumption) ?_
        try simp only [Act.put]
        try simp only [List.setIfInBounds_toArray]
        try simp only [List.set_cons_succ]
        try simp only [List.set_cons_zero]
        refine wpAnyH_take (i := 13) (oi := ⟨some 30, _, _, _, _, _⟩) (v := undef) rfl (by kernel_rfl) (by kernel_rfl) (by kernel_rfl) (fun _ _ _ h => h) (Or.inr ⟨by rfl, rfl⟩) (by assumption) ?_
        try simp only [Act.put]
        try simp only [List.setIfInBounds_toArray]
        try simp only [List.set_cons_succ]
        try simp only [List.set_cons_zero]
        refine wpAnyH_take (i := 14) (oi := ⟨some 31, _, _, _, _, _⟩) (v := undef) rfl (by kernel_rfl) (by kernel_rfl) (by kernel_rfl) (fun _ _ _ h => h) (Or.inr ⟨by rfl, rfl⟩) (by assumption) ?_
        try simp only [Act.put]
        try simp only [List.setIfInBounds_toArray]
        try simp only [List.set_cons_succ]
        try simp only [List.set_cons_zero]
        refine wpAnyH_take (i := 15) (oi := ⟨some 32, _, _, _, _, _⟩) (v := undef) rfl (by kernel_rfl) (by kernel_rfl) (by kernel_rfl) (fun _ _ _ h => h) (Or.inr ⟨by rfl, rfl⟩) (by assumption) ?_
        try simp only [Act.put]
        try simp only [List.setIfInBounds_toArray]
        try simp only [List.set_cons_succ]
        try simp only [List.set_cons_zero]
        refine wpAnyH_take (i := 16) (oi := ⟨some 33, _, _, _, _, _⟩) (v := undef) rfl (by kernel_rfl) (by kernel_rfl) (by kernel_rfl) (fun _ _ _ h => h) (Or.inr ⟨by rfl, rfl⟩) (by assumption) ?_
        try simp only [Act.put]
        try simp only [List.setIfInBounds_toArray]
        try simp only [List.set_cons_succ]
        try simp only [List.set_cons_zero]
        refine wpAnyH_take (i := 17) (oi := ⟨some 34, _, _, _, _, _⟩) (v := undef) rfl (by kernel_rfl) (by kernel_rfl) (by kernel_rfl) (fun _ _ _ h => h) (Or.inr ⟨by rfl, rfl⟩) (by assumption) ?_
        try simp only [Act.put]
        try simp only [List.setIfInBounds_toArray]
        try simp only [List.set_cons_succ]
        try simp only [List.set_cons_zero]
        refine wpAnyH_take (i := 18) (oi := ⟨some 35, _, _, _, _, _⟩) (v := ?_) rfl (by kernel_rfl) (by kernel_rfl) (by kernel_rfl) (fun _ _ _ h => h) (Or.inl ⟨by rfl, ?_⟩) (by assumption) ?_
        rotate_left
        · (intro w hSw; (try dsimp only at hSw); obtain ⟨⟨s0, s1, s2, s3, s4⟩, s5, s6⟩ := hSw; go_simp <;> with_reducible rfl)
        try simp only [Act.put]
        try simp only [List.setIfInBounds_toArray]
        try simp only [List.set_cons_succ]
        try simp only [List.set_cons_zero]
        refine wpAnyH_done (by kernel_rfl) ?_ _
        refine NoPanic.normal ?_
        all_goals go_wp2
        all_goals go_ret
        all_goals exact ⟨Pl.ret_bool HN.out.symm, hb0.trans ((HBw.out _ hb3).mono (by omega))⟩
      | true =>
        rw [hL] at HRk hon
        by_cases h0 : k = 0
        · have HN : Hid (∀ j, j < k + 1 → ok j = true) := fun j hj => by
            rw [show j = k by omega, hon, decide_eq_true h0]; rfl
          have hd : decide (0 < (k : Int)) = false := by simp; omega
          have hd2 : decide (0 < k) = false := by simp; omega
          clear hno hon h0
          go_wp2
          rw [← ewx]
          clear ewx
          refine wp_region_noPanic ?_
          refine wp_region_held_drew (S := fun w' => ((w'.cell? ⟨w.heap.size, 0, none⟩ = some (.int .i64 fr) ∧ w'.cell? ⟨w.heap.size, 1, none⟩ = some (.int .i64 la) ∧ w'.cell? ⟨w.heap.size, 2, none⟩ = some (.string lt) ∧ w'.cell? ⟨w.heap.size, 3, none⟩ = some (.slice eA ex.length ec) ∧ w'.cell? ⟨w.heap.size, 4, none⟩ = some (.slice (some ⟨b, off, none⟩) bl.length bc)) ∧ (w'.cell? ⟨wr.heap.size, 0, none⟩ = some (.int .i64 (Pl.gR bl k)) ∧ w'.cell? ⟨wr.heap.size, 1, none⟩ = some (.int .u8 (Pl.gC bl k))))) (by kernel_rfl) ⟨(HS.out _ (Below.refl _ _).drew).1, (HS.out _ (Below.refl _ _).drew).2.1⟩ (fun hHeld => ?_)
          refine wpAnyH_take (i := 0) (oi := ⟨some 17, _, _, _, _, _⟩) (v := ?_) rfl (by kernel_rfl) (by kernel_rfl) (by kernel_rfl) (fun _ _ _ h => h) (Or.inl ⟨by rfl, ?_⟩) (by assumption) ?_
          rotate_left
          · (intro w hSw; (try dsimp only at hSw); obtain ⟨⟨s0, s1, s2, s3, s4⟩, s5, s6⟩ := hSw; go_simp <;> with_reducible rfl)
          try simp only [Act.put]
          try simp only [List.setIfInBounds_toArray]
          try simp only [List.set_cons_succ]
          try simp only [List.set_cons_zero]
          refine wpAnyH_take (i := 1) (oi := ⟨some 18, _, _, _, _, _⟩) (v := ?_) rfl (by kernel_rfl) (by kernel_rfl) (by kernel_rfl) (fun _ _ _ h => h) (Or.inl ⟨by rfl, ?_⟩) (by assumption) ?_
          rotate_left
          · (intro w hSw; (try dsimp only at hSw); obtain ⟨⟨s0, s1, s2, s3, s4⟩, s5, s6⟩ := hSw; go_simp <;> with_reducible rfl)
          try simp only [Act.put]
          try simp only [List.setIfInBounds_toArray]
          try simp only [List.set_cons_succ]
          try simp only [List.set_cons_zero]
          refine wpAnyH_ready (rs := [2]) (by kernel_rfl) (by simp) ?_
          refine AllReadyH.cons (o := ⟨some 19, _, _, _, _, _⟩) rfl (fun K hK => ?_) AllReadyH.nil
          go_simp
          go_at_call 51
          refine (HRk.out _).mono ?_
          rintro e w2 ⟨rfl, hb2⟩
          have hb3 : Below wx.heap.size wx w2 := (Below.refl _ _).drew.trans hb2
          go_wp2_with fail
          refine hK.out _ _ ?_ (fun hHeld2 => ?_)
          · exact ⟨(HS.out _ hb3).1, (HS.out _ hb3).2.1⟩
          clear hK K
          try simp only [Act.put]
          try simp only [List.setIfInBounds_toArray]
          try simp only [List.set_cons_succ]
          try simp only [List.set_cons_zero]
          refine wpAnyH_take (i := 3) (oi := ⟨some 20, _, _, _, _, _⟩) (v := ?_) rfl (by kernel_rfl) (by kernel_rfl) (by kernel_rfl) (fun _ _ _ h => h) (Or.inl ⟨by rfl, ?_⟩) (by assumption) ?_
          rotate_left
          · (intro w hSw; (try dsimp only at hSw); obtain ⟨⟨s0, s1, s2, s3, s4⟩, s5, s6⟩ := hSw; go_simp <;> with_reducible rfl)
          try simp only [Act.put]
          try simp only [List.setIfInBounds_toArray]
          try simp only [List.set_cons_succ]
          try simp only [List.set_cons_zero]
          refine wpAnyH_take (i := 4) (oi := ⟨some 21, _, _, _, _, _⟩) (v := ?_) rfl (by kernel_rfl) (by kernel_rfl) (by kernel_rfl) (fun _ _ _ h => h) (Or.inl ⟨by rfl, ?_⟩) (by assumption) ?_
          rotate_left
          · (intro w hSw; (try dsimp only at hSw); obtain ⟨⟨s0, s1, s2, s3, s4⟩, s5, s6⟩ := hSw; go_simp <;> with_reducible rfl)
          try simp only [Act.put]
          try simp only [List.setIfInBounds_toArray]
          try simp only [List.set_cons_succ]
          try simp only [List.set_cons_zero]
          refine wpAnyH_take (i := 5) (oi := ⟨some 22, _, _, _, _, _⟩) (v := ?_) rfl (by kernel_rfl) (by kernel_rfl) (by kernel_rfl) (fun _ _ _ h => h) (Or.inl ⟨by rfl, ?_⟩) (by assumption) ?_
          rotate_left
          · (intro w hSw; (try dsimp only at hSw); obtain ⟨⟨s0, s1, s2, s3, s4⟩, s5, s6⟩ := hSw; go_simp <;> with_reducible rfl)
          try simp only [Act.put]
          try simp only [List.setIfInBounds_toArray]
          try simp only [List.set_cons_succ]
          try simp only [List.set_cons_zero]
          refine wpAnyH_take (i := 6) (oi := ⟨some 23, _, _, _, _, _⟩) (v := .bool false) rfl (by kernel_rfl) (by kernel_rfl) (by kernel_rfl) (fun _ _ _ h => h) (Or.inl ⟨by rfl, ?_⟩) (by assumption) ?_
          · (intro w hSw; (try dsimp only at hSw); obtain ⟨⟨s0, s1, s2, s3, s4⟩, s5, s6⟩ := hSw; go_simp <;> first | with_reducible rfl | simp [hd, hd2] | omega)
          try simp only [Act.put]
          try simp only [List.setIfInBounds_toArray]
          try simp only [List.set_cons_succ]
          try simp only [List.set_cons_zero]
          refine wpAnyH_take (i := 7) (oi := ⟨some 24, _, _, _, _, _⟩) (v := ?_) rfl (by kernel_rfl) (by kernel_rfl) (by kernel_rfl) (fun _ _ _ h => h) (Or.inl ⟨by rfl, ?_⟩) (by assumption) ?_
          rotate_left
          · (intro w hSw; (try dsimp only at hSw); obtain ⟨⟨s0, s1, s2, s3, s4⟩, s5, s6⟩ := hSw; go_simp <;> with_reducible rfl)
          try simp only [Act.put]
          try simp only [List.setIfInBounds_toArray]
          try simp only [List.set_cons_succ]
          try simp only [List.set_cons_zero]
          refine wpAnyH_take (i := 8) (oi := ⟨some 25, _, _, _, _, _⟩) (v := undef) rfl (by kernel_rfl) (by kernel_rfl) (by kernel_rfl) (fun _ _ _ h => h) (Or.inr ⟨by rfl, rfl⟩) (by assumption) ?_
          try simp only [Act.put]
          try simp only [List.setIfInBounds_toArray]
          try simp only [List.set_cons_succ]
          try simp only [List.set_cons_zero]
          refine wpAnyH_take (i := 9) (oi := ⟨some 26, _, _, _, _, _⟩) (v := undef) rfl (by kernel_rfl) (by kernel_rfl) (by kernel_rfl) (fun _ _ _ h => h) (Or.inr ⟨by rfl, rfl⟩) (by assumption) ?_
          try simp only [Act.put]
          try simp only [List.setIfInBounds_toArray]
          try simp only [List.set_cons_succ]
          try simp only [List.set_cons_zero]
          refine wpAnyH_take (i := 10) (oi := ⟨some 27, _, _, _, _, _⟩) (v := undef) rfl (by kernel_rfl) (by kernel_rfl) (by kernel_rfl) (fun _ _ _ h => h) (Or.inr ⟨by rfl, rfl⟩) (by assumption) ?_
          try simp only [Act.put]
          try simp only [List.setIfInBounds_toArray]
          try simp only [List.set_cons_succ]
          try simp only [List.set_cons_zero]
          refine wpAnyH_take (i := 11) (oi := ⟨some 28, _, _, _, _, _⟩) (v := undef) rfl (by kernel_rfl) (by kernel_rfl) (by kernel_rfl) (fun _ _ _ h => h) (Or.inr ⟨by rfl, rfl⟩) (by assumption) ?_
          try simp only [Act.put]
          try simp only [List.setIfInBounds_toArray]
          try simp only [List.set_cons_succ]
          try simp only [List.set_cons_zero]
          refine wpAnyH_take (i := 12) (oi := ⟨some 29, _, _, _, _, _⟩) (v := undef) rfl (by kernel_rfl) (by kernel_rfl) (by kernel_rfl) (fun _ _ _ h => h) (Or.inr ⟨by rfl, rfl⟩) (by assumption) ?_
          try simp only [Act.put]
          try simp only [List.setIfInBounds_toArray]
          try simp only [List.set_cons_succ]
          try simp only [List.set_cons_zero]
          refine wpAnyH_take (i := 13) (oi := ⟨some 30, _, _, _, _, _⟩) (v := undef) rfl (by kernel_rfl) (by kernel_rfl) (by kernel_rfl) (fun _ _ _ h => h) (Or.inr ⟨by rfl, rfl⟩) (by assumption) ?_
          try simp only [Act.put]
          try simp only [List.setIfInBounds_toArray]
          try simp only [List.set_cons_succ]
          try simp only [List.set_cons_zero]
          refine wpAnyH_take (i := 14) (oi := ⟨some 31, _, _, _, _, _⟩) (v := undef) rfl (by kernel_rfl) (by kernel_rfl) (by kernel_rfl) (fun _ _ _ h => h) (Or.inr ⟨by rfl, rfl⟩) (by assumption) ?_
          try simp only [Act.put]
          try simp only [List.setIfInBounds_toArray]
          try simp only [List.set_cons_succ]
          try simp only [List.set_cons_zero]
          refine wpAnyH_take (i := 15) (oi := ⟨some 32, _, _, _, _, _⟩) (v := undef) rfl (by kernel_rfl) (by kernel_rfl) (by kernel_rfl) (fun _ _ _ h => h) (Or.inr ⟨by rfl, rfl⟩) (by assumption) ?_
          try simp only [Act.put]
          try simp only [List.setIfInBounds_toArray]
          try simp only [List.set_cons_succ]
          try simp only [List.set_cons_zero]
          refine wpAnyH_take (i := 16) (oi := ⟨some 33, _, _, _, _, _⟩) (v := undef) rfl (by kernel_rfl) (by kernel_rfl) (by kernel_rfl) (fun _ _ _ h => h) (Or.inr ⟨by rfl, rfl⟩) (by assumption) ?_
          try simp only [Act.put]
          try simp only [List.setIfInBounds_toArray]
          try simp only [List.set_cons_succ]
          try simp only [List.set_cons_zero]
          refine wpAnyH_take (i := 17) (oi := ⟨some 34, _, _, _, _, _⟩) (v := ?_) rfl (by kernel_rfl) (by kernel_rfl) (by kernel_rfl) (fun _ _ _ h => h) (Or.inl ⟨by rfl, ?_⟩) (by assumption) ?_
          rotate_left
          · (intro w hSw; (try dsimp only at hSw); obtain ⟨⟨s0, s1, s2, s3, s4⟩, s5, s6⟩ := hSw; go_simp <;> with_reducible rfl)
          try simp only [Act.put]
          try simp only [List.setIfInBounds_toArray]
          try simp only [List.set_cons_succ]
          try simp only [List.set_cons_zero]
          refine wpAnyH_take (i := 18) (oi := ⟨some 35, _, _, _, _, _⟩) (v := ?_) rfl (by kernel_rfl) (by kernel_rfl) (by kernel_rfl) (fun _ _ _ h => h) (Or.inl ⟨by rfl, ?_⟩) (by assumption) ?_
          rotate_left
          · (intro w hSw; (try dsimp only at hSw); obtain ⟨⟨s0, s1, s2, s3, s4⟩, s5, s6⟩ := hSw; go_simp <;> with_reducible rfl)
          try simp only [Act.put]
          try simp only [List.setIfInBounds_toArray]
          try simp only [List.set_cons_succ]
          try simp only [List.set_cons_zero]
          refine wpAnyH_done (by kernel_rfl) ?_ _
          refine NoPanic.normal ?_
          all_goals go_wp2
          all_goals first | exact ⟨⟨k + 1, by omega, by go_num, HN, HBw.out _ hb3⟩, by simp [intOf]; omega⟩ | (go_roundw <;> first | exact ⟨k + 1, by omega, by go_num, HN, HBw.out _ hb3⟩ | (simp [intOf]; omega))
        · rw [decide_eq_false h0] at hon
          obtain ⟨m, hm⟩ : ∃ m, k - 1 = m := ⟨_, rfl⟩
          rw [hm] at hon
          have hm2 : m < bl.length := by omega
          have hd : decide (0 < (k : Int)) = true := by simp; omega
          have hd2 : decide (0 < k) = true := by simp; omega
          have hw1 : (k : Int) - 1 = (m : Int) := by omega
          have hw2 : IntKind.i64.wrap (m : Int) = (m : Int) := IntWalk.i64_in _ (by omega)
          have HLk := Lib.hid (fun w => below_any (Pl.gR bl m, Pl.gC bl m) (Pl.gR bl k, Pl.gC bl k) w)
          unfold Pl.sv at HLk
          simp only at HLk
          cases h5 : Pl.lss (Pl.gR bl m, Pl.gC bl m) (Pl.gR bl k, Pl.gC bl k) with
          | true =>
            have HN : Hid (∀ j, j < k + 1 → ok j = true) := fun j hj => by
              rcases Nat.lt_or_ge j k with hj' | hj'
              · exact HK.out j hj'
              · rw [show j = k by omega, hon, h5]; rfl
            rw [h5] at HLk
            clear hno hon
            go_wp2
            rw [← ewx]
            clear ewx
            refine wp_region_noPanic ?_
            refine wp_region_held_drew (S := fun w' => (((w'.cell? ⟨w.heap.size, 0, none⟩ = some (.int .i64 fr) ∧ w'.cell? ⟨w.heap.size, 1, none⟩ = some (.int .i64 la) ∧ w'.cell? ⟨w.heap.size, 2, none⟩ = some (.string lt) ∧ w'.cell? ⟨w.heap.size, 3, none⟩ = some (.slice eA ex.length ec) ∧ w'.cell? ⟨w.heap.size, 4, none⟩ = some (.slice (some ⟨b, off, none⟩) bl.length bc)) ∧ (w'.cell? ⟨wr.heap.size, 0, none⟩ = some (.int .i64 (Pl.gR bl k)) ∧ w'.cell? ⟨wr.heap.size, 1, none⟩ = some (.int .u8 (Pl.gC bl k)))) ∧ (w'.cell? ⟨b, off + m * 2, none⟩ = some (.int .i64 (Pl.gR bl m)) ∧ w'.cell? ⟨b, off + m * 2 + 1, none⟩ = some (.int .u8 (Pl.gC bl m))))) (by kernel_rfl) ⟨⟨(HS.out _ (Below.refl _ _).drew).1, (HS.out _ (Below.refl _ _).drew).2.1⟩, (HS.out _ (Below.refl _ _).drew).2.2 m hm2⟩ (fun hHeld => ?_)
            refine wpAnyH_take (i := 0) (oi := ⟨some 17, _, _, _, _, _⟩) (v := ?_) rfl (by kernel_rfl) (by kernel_rfl) (by kernel_rfl) (fun _ _ _ h => h) (Or.inl ⟨by rfl, ?_⟩) (by assumption) ?_
            rotate_left
            · (intro w hSw; (try dsimp only at hSw); obtain ⟨⟨⟨s0, s1, s2, s3, s4⟩, s5, s6⟩, s7, s8⟩ := hSw; go_simp <;> with_reducible rfl)
            try simp only [Act.put]
            try simp only [List.setIfInBounds_toArray]
            try simp only [List.set_cons_succ]
            try simp only [List.set_cons_zero]
            refine wpAnyH_take (i := 1) (oi := ⟨some 18, _, _, _, _, _⟩) (v := ?_) rfl (by kernel_rfl) (by kernel_rfl) (by kernel_rfl) (fun _ _ _ h => h) (Or.inl ⟨by rfl, ?_⟩) (by assumption) ?_
            rotate_left
            · (intro w hSw; (try dsimp only at hSw); obtain ⟨⟨⟨s0, s1, s2, s3, s4⟩, s5, s6⟩, s7, s8⟩ := hSw; go_simp <;> with_reducible rfl)
            try simp only [Act.put]
            try simp only [List.setIfInBounds_toArray]
            try simp only [List.set_cons_succ]
            try simp only [List.set_cons_zero]
            refine wpAnyH_ready (rs := [2]) (by kernel_rfl) (by simp) ?_
            refine AllReadyH.cons (o := ⟨some 19, _, _, _, _, _⟩) rfl (fun K hK => ?_) AllReadyH.nil
            go_simp
            go_at_call 51
            refine (HRk.out _).mono ?_
            rintro e w2 ⟨rfl, hb2⟩
            have hb3 : Below wx.heap.size wx w2 := (Below.refl _ _).drew.trans hb2
            go_wp2_with fail
            refine hK.out _ _ ?_ (fun hHeld2 => ?_)
            · exact ⟨⟨(HS.out _ hb3).1, (HS.out _ hb3).2.1⟩, (HS.out _ hb3).2.2 m hm2⟩
            clear hK K
            try simp only [Act.put]
            try simp only [List.setIfInBounds_toArray]
            try simp only [List.set_cons_succ]
            try simp only [List.set_cons_zero]
            refine wpAnyH_take (i := 3) (oi := ⟨some 20, _, _, _, _, _⟩) (v := ?_) rfl (by kernel_rfl) (by kernel_rfl) (by kernel_rfl) (fun _ _ _ h => h) (Or.inl ⟨by rfl, ?_⟩) (by assumption) ?_
            rotate_left
            · (intro w hSw; (try dsimp only at hSw); obtain ⟨⟨⟨s0, s1, s2, s3, s4⟩, s5, s6⟩, s7, s8⟩ := hSw; go_simp <;> with_reducible rfl)
            try simp only [Act.put]
            try simp only [List.setIfInBounds_toArray]
            try simp only [List.set_cons_succ]
            try simp only [List.set_cons_zero]
            refine wpAnyH_take (i := 4) (oi := ⟨some 21, _, _, _, _, _⟩) (v := ?_) rfl (by kernel_rfl) (by kernel_rfl) (by kernel_rfl) (fun _ _ _ h => h) (Or.inl ⟨by rfl, ?_⟩) (by assumption) ?_
            rotate_left
            · (intro w hSw; (try dsimp only at hSw); obtain ⟨⟨⟨s0, s1, s2, s3, s4⟩, s5, s6⟩, s7, s8⟩ := hSw; go_simp <;> with_reducible rfl)
            try simp only [Act.put]
            try simp only [List.setIfInBounds_toArray]
            try simp only [List.set_cons_succ]
            try simp only [List.set_cons_zero]
            refine wpAnyH_take (i := 5) (oi := ⟨some 22, _, _, _, _, _⟩) (v := ?_) rfl (by kernel_rfl) (by kernel_rfl) (by kernel_rfl) (fun _ _ _ h => h) (Or.inl ⟨by rfl, ?_⟩) (by assumption) ?_
            rotate_left
            · (intro w hSw; (try dsimp only at hSw); obtain ⟨⟨⟨s0, s1, s2, s3, s4⟩, s5, s6⟩, s7, s8⟩ := hSw; go_simp <;> with_reducible rfl)
            try simp only [Act.put]
            try simp only [List.setIfInBounds_toArray]
            try simp only [List.set_cons_succ]
            try simp only [List.set_cons_zero]
            refine wpAnyH_take (i := 6) (oi := ⟨some 23, _, _, _, _, _⟩) (v := .bool true) rfl (by kernel_rfl) (by kernel_rfl) (by kernel_rfl) (fun _ _ _ h => h) (Or.inl ⟨by rfl, ?_⟩) (by assumption) ?_
            · (intro w hSw; (try dsimp only at hSw); obtain ⟨⟨⟨s0, s1, s2, s3, s4⟩, s5, s6⟩, s7, s8⟩ := hSw; go_simp <;> first | with_reducible rfl | simp [hd, hd2] | omega)
            try simp only [Act.put]
            try simp only [List.setIfInBounds_toArray]
            try simp only [List.set_cons_succ]
            try simp only [List.set_cons_zero]
            refine wpAnyH_take (i := 7) (oi := ⟨some 24, _, _, _, _, _⟩) (v := ?_) rfl (by kernel_rfl) (by kernel_rfl) (by kernel_rfl) (fun _ _ _ h => h) (Or.inl ⟨by rfl, ?_⟩) (by assumption) ?_
            rotate_left
            · (intro w hSw; (try dsimp only at hSw); obtain ⟨⟨⟨s0, s1, s2, s3, s4⟩, s5, s6⟩, s7, s8⟩ := hSw; go_simp <;> with_reducible rfl)
            try simp only [Act.put]
            try simp only [List.setIfInBounds_toArray]
            try simp only [List.set_cons_succ]
            try simp only [List.set_cons_zero]
            refine wpAnyH_take (i := 8) (oi := ⟨some 25, _, _, _, _, _⟩) (v := ?_) rfl (by kernel_rfl) (by kernel_rfl) (by kernel_rfl) (fun _ _ _ h => h) (Or.inl ⟨by rfl, ?_⟩) (by assumption) ?_
            rotate_left
            · (intro w hSw; (try dsimp only at hSw); obtain ⟨⟨⟨s0, s1, s2, s3, s4⟩, s5, s6⟩, s7, s8⟩ := hSw; go_simp <;> with_reducible rfl)
            try simp only [Act.put]
            try simp only [List.setIfInBounds_toArray]
            try simp only [List.set_cons_succ]
            try simp only [List.set_cons_zero]
            refine wpAnyH_take (i := 9) (oi := ⟨some 26, _, _, _, _, _⟩) (v := ?_) rfl (by kernel_rfl) (by kernel_rfl) (by kernel_rfl) (fun _ _ _ h => h) (Or.inl ⟨by rfl, ?_⟩) (by assumption) ?_
            rotate_left
            · (intro w hSw; (try dsimp only at hSw); obtain ⟨⟨⟨s0, s1, s2, s3, s4⟩, s5, s6⟩, s7, s8⟩ := hSw; go_simp <;> with_reducible rfl)
            try simp only [Act.put]
            try simp only [List.setIfInBounds_toArray]
            try simp only [List.set_cons_succ]
            try simp only [List.set_cons_zero]
            refine wpAnyH_take (i := 10) (oi := ⟨some 27, _, _, _, _, _⟩) (v := ?_) rfl (by kernel_rfl) (by kernel_rfl) (by kernel_rfl) (fun _ _ _ h => h) (Or.inl ⟨by rfl, ?_⟩) (by assumption) ?_
            rotate_left
            · (intro w hSw; (try dsimp only at hSw); obtain ⟨⟨⟨s0, s1, s2, s3, s4⟩, s5, s6⟩, s7, s8⟩ := hSw; go_simp <;> with_reducible rfl)
            try simp only [Act.put]
            try simp only [List.setIfInBounds_toArray]
            try simp only [List.set_cons_succ]
            try simp only [List.set_cons_zero]
            refine wpAnyH_take (i := 11) (oi := ⟨some 28, _, _, _, _, _⟩) (v := ?_) rfl (by kernel_rfl) (by kernel_rfl) (by kernel_rfl) (fun _ _ _ h => h) (Or.inl ⟨by rfl, ?_⟩) (by assumption) ?_
            rotate_left
            · (intro w hSw; (try dsimp only at hSw); obtain ⟨⟨⟨s0, s1, s2, s3, s4⟩, s5, s6⟩, s7, s8⟩ := hSw; go_simp <;> with_reducible rfl)
            try simp only [Act.put]
            try simp only [List.setIfInBounds_toArray]
            try simp only [List.set_cons_succ]
            try simp only [List.set_cons_zero]
            refine wpAnyH_take (i := 12) (oi := ⟨some 29, _, _, _, _, _⟩) (v := ?_) rfl (by kernel_rfl) (by kernel_rfl) (by kernel_rfl) (fun _ _ _ h => h) (Or.inl ⟨by rfl, ?_⟩) (by assumption) ?_
            rotate_left
            · (intro w hSw; (try dsimp only at hSw); obtain ⟨⟨⟨s0, s1, s2, s3, s4⟩, s5, s6⟩, s7, s8⟩ := hSw; go_simp <;> with_reducible rfl)
            try simp only [Act.put]
            try simp only [List.setIfInBounds_toArray]
            try simp only [List.set_cons_succ]
            try simp only [List.set_cons_zero]
            refine wpAnyH_take (i := 13) (oi := ⟨some 30, _, _, _, _, _⟩) (v := ?_) rfl (by kernel_rfl) (by kernel_rfl) (by kernel_rfl) (fun _ _ _ h => h) (Or.inl ⟨by rfl, ?_⟩) (by assumption) ?_
            rotate_left
            · (intro w hSw; (try dsimp only at hSw); obtain ⟨⟨⟨s0, s1, s2, s3, s4⟩, s5, s6⟩, s7, s8⟩ := hSw; go_simp <;> with_reducible rfl)
            try simp only [Act.put]
            try simp only [List.setIfInBounds_toArray]
            try simp only [List.set_cons_succ]
            try simp only [List.set_cons_zero]
            refine wpAnyH_take (i := 14) (oi := ⟨some 31, _, _, _, _, _⟩) (v := ?_) rfl (by kernel_rfl) (by kernel_rfl) (by kernel_rfl) (fun _ _ _ h => h) (Or.inl ⟨by rfl, ?_⟩) (by assumption) ?_
            rotate_left
            · (intro w hSw; (try dsimp only at hSw); obtain ⟨⟨⟨s0, s1, s2, s3, s4⟩, s5, s6⟩, s7, s8⟩ := hSw; go_simp <;> with_reducible rfl)
            try simp only [Act.put]
            try simp only [List.setIfInBounds_toArray]
            try simp only [List.set_cons_succ]
            try simp only [List.set_cons_zero]
            refine wpAnyH_ready (rs := [15]) (by kernel_rfl) (by simp) ?_
            refine AllReadyH.cons (o := ⟨some 32, _, _, _, _, _⟩) rfl (fun K hK => ?_) AllReadyH.nil
            go_simp
            go_at_call 52
            refine (HLk.out _).mono ?_
            rintro e w4 ⟨rfl, hb4⟩
            have hb5 : Below wx.heap.size wx w4 := hb3.trans (hb4.mono hb3.size)
            go_wp2_with fail
            refine hK.out _ _ ?_ (fun hHeld2 => ?_)
            · exact ⟨⟨(HS.out _ hb5).1, (HS.out _ hb5).2.1⟩, (HS.out _ hb5).2.2 m hm2⟩
            clear hK K
            try simp only [Act.put]
            try simp only [List.setIfInBounds_toArray]
            try simp only [List.set_cons_succ]
            try simp only [List.set_cons_zero]
            refine wpAnyH_take (i := 16) (oi := ⟨some 33, _, _, _, _, _⟩) (v := ?_) rfl (by kernel_rfl) (by kernel_rfl) (by kernel_rfl) (fun _ _ _ h => h) (Or.inl ⟨by rfl, ?_⟩) (by assumption) ?_
            rotate_left
            · (intro w hSw; (try dsimp only at hSw); obtain ⟨⟨⟨s0, s1, s2, s3, s4⟩, s5, s6⟩, s7, s8⟩ := hSw; go_simp <;> with_reducible rfl)
            try simp only [Act.put]
            try simp only [List.setIfInBounds_toArray]
            try simp only [List.set_cons_succ]
            try simp only [List.set_cons_zero]
            refine wpAnyH_take (i := 17) (oi := ⟨some 34, _, _, _, _, _⟩) (v := ?_) rfl (by kernel_rfl) (by kernel_rfl) (by kernel_rfl) (fun _ _ _ h => h) (Or.inl ⟨by rfl, ?_⟩) (by assumption) ?_
            rotate_left
            · (intro w hSw; (try dsimp only at hSw); obtain ⟨⟨⟨s0, s1, s2, s3, s4⟩, s5, s6⟩, s7, s8⟩ := hSw; go_simp <;> with_reducible rfl)
            try simp only [Act.put]
            try simp only [List.setIfInBounds_toArray]
            try simp only [List.set_cons_succ]
            try simp only [List.set_cons_zero]
            refine wpAnyH_take (i := 18) (oi := ⟨some 35, _, _, _, _, _⟩) (v := ?_) rfl (by kernel_rfl) (by kernel_rfl) (by kernel_rfl) (fun _ _ _ h => h) (Or.inl ⟨by rfl, ?_⟩) (by assumption) ?_
            rotate_left
            · (intro w hSw; (try dsimp only at hSw); obtain ⟨⟨⟨s0, s1, s2, s3, s4⟩, s5, s6⟩, s7, s8⟩ := hSw; go_simp <;> with_reducible rfl)
            try simp only [Act.put]
            try simp only [List.setIfInBounds_toArray]
            try simp only [List.set_cons_succ]
            try simp only [List.set_cons_zero]
            refine wpAnyH_done (by kernel_rfl) ?_ _
            refine NoPanic.normal ?_
            all_goals go_wp2
            all_goals first | exact ⟨⟨k + 1, by omega, by go_num, HN, HBw.out _ hb5⟩, by simp [intOf]; omega⟩ | (go_roundw <;> first | exact ⟨k + 1, by omega, by go_num, HN, HBw.out _ hb5⟩ | (simp [intOf]; omega))
          | false =>
            have HN := Lib.hid (hno (by rw [hon, h5]; rfl))
            rw [h5] at HLk
            clear hno hon
            go_wp2
            rw [← ewx]
            clear ewx
            refine wp_region_noPanic ?_
            refine wp_region_held_drew (S := fun w' => (((w'.cell? ⟨w.heap.size, 0, none⟩ = some (.int .i64 fr) ∧ w'.cell? ⟨w.heap.size, 1, none⟩ = some (.int .i64 la) ∧ w'.cell? ⟨w.heap.size, 2, none⟩ = some (.string lt) ∧ w'.cell? ⟨w.heap.size, 3, none⟩ = some (.slice eA ex.length ec) ∧ w'.cell? ⟨w.heap.size, 4, none⟩ = some (.slice (some ⟨b, off, none⟩) bl.length bc)) ∧ (w'.cell? ⟨wr.heap.size, 0, none⟩ = some (.int .i64 (Pl.gR bl k)) ∧ w'.cell? ⟨wr.heap.size, 1, none⟩ = some (.int .u8 (Pl.gC bl k)))) ∧ (w'.cell? ⟨b, off + m * 2, none⟩ = some (.int .i64 (Pl.gR bl m)) ∧ w'.cell? ⟨b, off + m * 2 + 1, none⟩ = some (.int .u8 (Pl.gC bl m))))) (by kernel_rfl) ⟨⟨(HS.out _ (Below.refl _ _).drew).1, (HS.out _ (Below.refl _ _).drew).2.1⟩, (HS.out _ (Below.refl _ _).drew).2.2 m hm2⟩ (fun hHeld => ?_)
            refine wpAnyH_take (i := 0) (oi := ⟨some 17, _, _, _, _, _⟩) (v := ?_) rfl (by kernel_rfl) (by kernel_rfl) (by kernel_rfl) (fun _ _ _ h => h) (Or.inl ⟨by rfl, ?_⟩) (by assumption) ?_
            rotate_left
            · (intro w hSw; (try dsimp only at hSw); obtain ⟨⟨⟨s0, s1, s2, s3, s4⟩, s5, s6⟩, s7, s8⟩ := hSw; go_simp <;> with_reducible rfl)
            try simp only [Act.put]
            try simp only [List.setIfInBounds_toArray]
            try simp only [List.set_cons_succ]
            try simp only [List.set_cons_zero]
            refine wpAnyH_take (i := 1) (oi := ⟨some 18, _, _, _, _, _⟩) (v := ?_) rfl (by kernel_rfl) (by kernel_rfl) (by kernel_rfl) (fun _ _ _ h => h) (Or.inl ⟨by rfl, ?_⟩) (by assumption) ?_
            rotate_left
            · (intro w hSw; (try dsimp only at hSw); obtain ⟨⟨⟨s0, s1, s2, s3, s4⟩, s5, s6⟩, s7, s8⟩ := hSw; go_simp <;> with_reducible rfl)
            try simp only [Act.put]
            try simp only [List.setIfInBounds_toArray]
            try simp only [List.set_cons_succ]
            try simp only [List.set_cons_zero]
            refine wpAnyH_ready (rs := [2]) (by kernel_rfl) (by simp) ?_
            refine AllReadyH.cons (o := ⟨some 19, _, _, _, _, _⟩) rfl (fun K hK => ?_) AllReadyH.nil
            go_simp
            go_at_call 51
            refine (HRk.out _).mono ?_
            rintro e w2 ⟨rfl, hb2⟩
            have hb3 : Below wx.heap.size wx w2 := (Below.refl _ _).drew.trans hb2
            go_wp2_with fail
            refine hK.out _ _ ?_ (fun hHeld2 => ?_)
            · exact ⟨⟨(HS.out _ hb3).1, (HS.out _ hb3).2.1⟩, (HS.out _ hb3).2.2 m hm2⟩
            clear hK K
            try simp only [Act.put]
            try simp only [List.setIfInBounds_toArray]
            try simp only [List.set_cons_succ]
            try simp only [List.set_cons_zero]
            refine wpAnyH_take (i := 3) (oi := ⟨some 20, _, _, _, _, _⟩) (v := ?_) rfl (by kernel_rfl) (by kernel_rfl) (by kernel_rfl) (fun _ _ _ h => h) (Or.inl ⟨by rfl, ?_⟩) (by assumption) ?_
            rotate_left
            · (intro w hSw; (try dsimp only at hSw); obtain ⟨⟨⟨s0, s1, s2, s3, s4⟩, s5, s6⟩, s7, s8⟩ := hSw; go_simp <;> with_reducible rfl)
            try simp only [Act.put]
            try simp only [List.setIfInBounds_toArray]
            try simp only [List.set_cons_succ]
            try simp only [List.set_cons_zero]
            refine wpAnyH_take (i := 4) (oi := ⟨some 21, _, _, _, _, _⟩) (v := ?_) rfl (by kernel_rfl) (by kernel_rfl) (by kernel_rfl) (fun _ _ _ h => h) (Or.inl ⟨by rfl, ?_⟩) (by assumption) ?_
            rotate_left
            · (intro w hSw; (try dsimp only at hSw); obtain ⟨⟨⟨s0, s1, s2, s3, s4⟩, s5, s6⟩, s7, s8⟩ := hSw; go_simp <;> with_reducible rfl)
            try simp only [Act.put]
            try simp only [List.setIfInBounds_toArray]
            try simp only [List.set_cons_succ]
            try simp only [List.set_cons_zero]
            refine wpAnyH_take (i := 5) (oi := ⟨some 22, _, _, _, _, _⟩) (v := ?_) rfl (by kernel_rfl) (by kernel_rfl) (by kernel_rfl) (fun _ _ _ h => h) (Or.inl ⟨by rfl, ?_⟩) (by assumption) ?_
            rotate_left
            · (intro w hSw; (try dsimp only at hSw); obtain ⟨⟨⟨s0, s1, s2, s3, s4⟩, s5, s6⟩, s7, s8⟩ := hSw; go_simp <;> with_reducible rfl)
            try simp only [Act.put]
            try simp only [List.setIfInBounds_toArray]
            try simp only [List.set_cons_succ]
            try simp only [List.set_cons_zero]
            refine wpAnyH_take (i := 6) (oi := ⟨some 23, _, _, _, _, _⟩) (v := .bool true) rfl (by kernel_rfl) (by kernel_rfl) (by kernel_rfl) (fun _ _ _ h => h) (Or.inl ⟨by rfl, ?_⟩) (by assumption) ?_
            · (intro w hSw; (try dsimp only at hSw); obtain ⟨⟨⟨s0, s1, s2, s3, s4⟩, s5, s6⟩, s7, s8⟩ := hSw; go_simp <;> first | with_reducible rfl | simp [hd, hd2] | omega)
            try simp only [Act.put]
            try simp only [List.setIfInBounds_toArray]
            try simp only [List.set_cons_succ]
            try simp only [List.set_cons_zero]
            refine wpAnyH_take (i := 7) (oi := ⟨some 24, _, _, _, _, _⟩) (v := ?_) rfl (by kernel_rfl) (by kernel_rfl) (by kernel_rfl) (fun _ _ _ h => h) (Or.inl ⟨by rfl, ?_⟩) (by assumption) ?_
            rotate_left
            · (intro w hSw; (try dsimp only at hSw); obtain ⟨⟨⟨s0, s1, s2, s3, s4⟩, s5, s6⟩, s7, s8⟩ := hSw; go_simp <;> with_reducible rfl)
            try simp only [Act.put]
            try simp only [List.setIfInBounds_toArray]
            try simp only [List.set_cons_succ]
            try simp only [List.set_cons_zero]
            refine wpAnyH_take (i := 8) (oi := ⟨some 25, _, _, _, _, _⟩) (v := ?_) rfl (by kernel_rfl) (by kernel_rfl) (by kernel_rfl) (fun _ _ _ h => h) (Or.inl ⟨by rfl, ?_⟩) (by assumption) ?_
            rotate_left
            · (intro w hSw; (try dsimp only at hSw); obtain ⟨⟨⟨s0, s1, s2, s3, s4⟩, s5, s6⟩, s7, s8⟩ := hSw; go_simp <;> with_reducible rfl)
            try simp only [Act.put]
            try simp only [List.setIfInBounds_toArray]
            try simp only [List.set_cons_succ]
            try simp only [List.set_cons_zero]
            refine wpAnyH_take (i := 9) (oi := ⟨some 26, _, _, _, _, _⟩) (v := ?_) rfl (by kernel_rfl) (by kernel_rfl) (by kernel_rfl) (fun _ _ _ h => h) (Or.inl ⟨by rfl, ?_⟩) (by assumption) ?_
            rotate_left
            · (intro w hSw; (try dsimp only at hSw); obtain ⟨⟨⟨s0, s1, s2, s3, s4⟩, s5, s6⟩, s7, s8⟩ := hSw; go_simp <;> with_reducible rfl)
            try simp only [Act.put]
            try simp only [List.setIfInBounds_toArray]
            try simp only [List.set_cons_succ]
            try simp only [List.set_cons_zero]
            refine wpAnyH_take (i := 10) (oi := ⟨some 27, _, _, _, _, _⟩) (v := ?_) rfl (by kernel_rfl) (by kernel_rfl) (by kernel_rfl) (fun _ _ _ h => h) (Or.inl ⟨by rfl, ?_⟩) (by assumption) ?_
            rotate_left
            · (intro w hSw; (try dsimp only at hSw); obtain ⟨⟨⟨s0, s1, s2, s3, s4⟩, s5, s6⟩, s7, s8⟩ := hSw; go_simp <;> with_reducible rfl)
            try simp only [Act.put]
            try simp only [List.setIfInBounds_toArray]
            try simp only [List.set_cons_succ]
            try simp only [List.set_cons_zero]
            refine wpAnyH_take (i := 11) (oi := ⟨some 28, _, _, _, _, _⟩) (v := ?_) rfl (by kernel_rfl) (by kernel_rfl) (by kernel_rfl) (fun _ _ _ h => h) (Or.inl ⟨by rfl, ?_⟩) (by assumption) ?_
            rotate_left
            · (intro w hSw; (try dsimp only at hSw); obtain ⟨⟨⟨s0, s1, s2, s3, s4⟩, s5, s6⟩, s7, s8⟩ := hSw; go_simp <;> with_reducible rfl)
            try simp only [Act.put]
            try simp only [List.setIfInBounds_toArray]
            try simp only [List.set_cons_succ]
            try simp only [List.set_cons_zero]
            refine wpAnyH_take (i := 12) (oi := ⟨some 29, _, _, _, _, _⟩) (v := ?_) rfl (by kernel_rfl) (by kernel_rfl) (by kernel_rfl) (fun _ _ _ h => h) (Or.inl ⟨by rfl, ?_⟩) (by assumption) ?_
            rotate_left
            · (intro w hSw; (try dsimp only at hSw); obtain ⟨⟨⟨s0, s1, s2, s3, s4⟩, s5, s6⟩, s7, s8⟩ := hSw; go_simp <;> with_reducible rfl)
            try simp only [Act.put]
            try simp only [List.setIfInBounds_toArray]
            try simp only [List.set_cons_succ]
            try simp only [List.set_cons_zero]
            refine wpAnyH_take (i := 13) (oi := ⟨some 30, _, _, _, _, _⟩) (v := ?_) rfl (by kernel_rfl) (by kernel_rfl) (by kernel_rfl) (fun _ _ _ h => h) (Or.inl ⟨by rfl, ?_⟩) (by assumption) ?_
            rotate_left
            · (intro w hSw; (try dsimp only at hSw); obtain ⟨⟨⟨s0, s1, s2, s3, s4⟩, s5, s6⟩, s7, s8⟩ := hSw; go_simp <;> with_reducible rfl)
            try simp only [Act.put]
            try simp only [List.setIfInBounds_toArray]
            try simp only [List.set_cons_succ]
            try simp only [List.set_cons_zero]
            refine wpAnyH_take (i := 14) (oi := ⟨some 31, _, _, _, _, _⟩) (v := ?_) rfl (by kernel_rfl) (by kernel_rfl) (by kernel_rfl) (fun _ _ _ h => h) (Or.inl ⟨by rfl, ?_⟩) (by assumption) ?_
            rotate_left
            · (intro w hSw; (try dsimp only at hSw); obtain ⟨⟨⟨s0, s1, s2, s3, s4⟩, s5, s6⟩, s7, s8⟩ := hSw; go_simp <;> with_reducible rfl)
            try simp only [Act.put]
            try simp only [List.setIfInBounds_toArray]
            try simp only [List.set_cons_succ]
            try simp only [List.set_cons_zero]
            refine wpAnyH_ready (rs := [15]) (by kernel_rfl) (by simp) ?_
            refine AllReadyH.cons (o := ⟨some 32, _, _, _, _, _⟩) rfl (fun K hK => ?_) AllReadyH.nil
            go_simp
            go_at_call 52
            refine (HLk.out _).mono ?_
            rintro e w4 ⟨rfl, hb4⟩
            have hb5 : Below wx.heap.size wx w4 := hb3.trans (hb4.mono hb3.size)
            go_wp2_with fail
            refine hK.out _ _ ?_ (fun hHeld2 => ?_)
            · exact ⟨⟨(HS.out _ hb5).1, (HS.out _ hb5).2.1⟩, (HS.out _ hb5).2.2 m hm2⟩
            clear hK K
            try simp only [Act.put]
            try simp only [List.setIfInBounds_toArray]
            try simp only [List.set_cons_succ]
            try simp only [List.set_cons_zero]
            refine wpAnyH_take (i := 16) (oi := ⟨some 33, _, _, _, _, _⟩) (v := ?_) rfl (by kernel_rfl) (by kernel_rfl) (by kernel_rfl) (fun _ _ _ h => h) (Or.inl ⟨by rfl, ?_⟩) (by assumption) ?_
            rotate_left
            · (intro w hSw; (try dsimp only at hSw); obtain ⟨⟨⟨s0, s1, s2, s3, s4⟩, s5, s6⟩, s7, s8⟩ := hSw; go_simp <;> with_reducible rfl)
            try simp only [Act.put]
            try simp only [List.setIfInBounds_toArray]
            try simp only [List.set_cons_succ]
            try simp only [List.set_cons_zero]
            refine wpAnyH_take (i := 17) (oi := ⟨some 34, _, _, _, _, _⟩) (v := ?_) rfl (by kernel_rfl) (by kernel_rfl) (by kernel_rfl) (fun _ _ _ h => h) (Or.inl ⟨by rfl, ?_⟩) (by assumption) ?_
            rotate_left
            · (intro w hSw; (try dsimp only at hSw); obtain ⟨⟨⟨s0, s1, s2, s3, s4⟩, s5, s6⟩, s7, s8⟩ := hSw; go_simp <;> with_reducible rfl)
            try simp only [Act.put]
            try simp only [List.setIfInBounds_toArray]
            try simp only [List.set_cons_succ]
            try simp only [List.set_cons_zero]
            refine wpAnyH_take (i := 18) (oi := ⟨some 35, _, _, _, _, _⟩) (v := ?_) rfl (by kernel_rfl) (by kernel_rfl) (by kernel_rfl) (fun _ _ _ h => h) (Or.inl ⟨by rfl, ?_⟩) (by assumption) ?_
            rotate_left
            · (intro w hSw; (try dsimp only at hSw); obtain ⟨⟨⟨s0, s1, s2, s3, s4⟩, s5, s6⟩, s7, s8⟩ := hSw; go_simp <;> with_reducible rfl)
            try simp only [Act.put]
            try simp only [List.setIfInBounds_toArray]
            try simp only [List.set_cons_succ]
            try simp only [List.set_cons_zero]
            refine wpAnyH_done (by kernel_rfl) ?_ _
            refine NoPanic.normal ?_
            all_goals go_wp2
            all_goals go_ret
            all_goals exact ⟨Pl.ret_bool HN.out.symm, hb0.trans ((HBw.out _ hb5).mono (by omega))⟩
    · go_wp2
      go_ret
      exact ⟨Pl.ret_bool (HY.out (fun j hj => HK.out j (by omega))).symm, hb0.trans (hbr.mono (by omega))⟩
end Go.Proofs.YtonfkonjkgalhaaDoor
