/- Contract of the document's Lay. -/
import Derived.Test.YtngpdjkeoodigaaRefD
namespace Go.Proofs.Ytngpdjkeoodigaa
open Go.RowKit

namespace Dk
def R.layCode (r : R) (i : Int) (n : Nat) : Int := if ¬ (0 ≤ i ∧ i < r.n) then 1 else if n ≠ 512 then 2 else if r.down = true then 3 else if r.done = true then 0 else 3
def R.lay (r : R) (i : Int) (d : List UInt8) : R := if ¬ (0 ≤ i ∧ i < r.n) then r else if d.length ≠ 512 then r else if r.down = true then r else { r.next with wait := r.wait ++ [(i, d)] }
theorem lay_far {r : R} {i : Int} {d : List UInt8} (h : ¬ (0 ≤ i ∧ i < r.n)) : r.lay i d = r ∧ r.layCode i d.length = 1 := by unfold R.lay R.layCode; rw [if_pos h, if_pos h]; exact ⟨rfl, rfl⟩
theorem lay_size {r : R} {i : Int} {d : List UInt8} (h : 0 ≤ i ∧ i < r.n) (h5 : d.length ≠ 512) : r.lay i d = r ∧ r.layCode i d.length = 2 := ⟨by simp [R.lay, h, h5], by simp [R.layCode, h, h5]⟩
theorem lay_down {r : R} {i : Int} {d : List UInt8} (h : 0 ≤ i ∧ i < r.n) (h5 : d.length = 512) (hd : r.down = true) : r.lay i d = r ∧ r.layCode i d.length = 3 := ⟨by simp [R.lay, h, h5, hd], by simp [R.layCode, h, h5, hd]⟩
theorem lay_ok {r : R} {i : Int} {d : List UInt8} (h : 0 ≤ i ∧ i < r.n) (h5 : d.length = 512) (hd : r.down = false) : r.lay i d = { r.next with wait := r.wait ++ [(i, d)] } ∧ r.layCode i d.length = if r.done = true then 0 else 3 := ⟨by simp [R.lay, h, h5, hd], by simp [R.layCode, h, h5, hd]⟩
/-- A row of one write. -/
theorem RW.one (w : World) (i : Int) (d : List UInt8) : RW (w.alloc (.cells #[.int .i64 i, .string ⟨d.toArray⟩] 86)) (.slice (some ⟨w.heap.size, 0, none⟩) 1 1) [(i, d)] :=
  ⟨rfl, .inr ⟨w.heap.size, 1, #[.int .i64 i, .string ⟨d.toArray⟩], rfl, Nat.zero_le _, heap_alloc_new w _, Nat.le_refl _, by unfold maxLen; omega, rfl, rfl⟩⟩
end Dk
set_option maxHeartbeats 2000000 in
theorem rlay (w : World) (r : Dk.R) (sv wv : Value) (i : Int) (d : List UInt8) (h : Dk.RR w r sv wv) (ha : 0 ≤ r.after ∧ r.after ≤ 9223372036854775807) (hln : r.safe.length + r.wait.length < 40000) :
    Calls Try.prog 27 #[Dk.rv r sv wv, .int .i64 i, .string ⟨d.toArray⟩] w fun e w' => ∃ sv' wv', e = .returned (.tuple #[Dk.rv (r.lay i d) sv' wv', .int .i64 (r.layCode i d.length)]) ∧ Hid (Dk.RR w' (r.lay i d) sv' wv') ∧ Below w.heap.size w w' := by
  have H := Lib.hid h
  have HA := Lib.hid ha
  have HLn := Lib.hid (show r.safe.length + (r.wait ++ [(i, d)]).length < 50000 by simp; omega)
  clear h ha hln
  obtain ⟨e1, e2⟩ := Dk.next_rows r
  have HE := Lib.hid (And.intro e1 e2)
  clear e1 e2
  by_cases h0 : 0 ≤ i
  · by_cases h1 : i < r.n
    · by_cases h5 : d.length ≠ 512
      · rw [(Dk.lay_size ⟨h0, h1⟩ h5).1, (Dk.lay_size ⟨h0, h1⟩ h5).2]
        have b5 : ((d.length : Int) == 512) = false := beq_eq_false_iff_ne.2 (by omega)
        go_enter Try.func27, Try.ntmps27
        go_wp2_with (first
          | (refine Dk.wpList_box30 rfl _ rfl r sv wv rfl ?_; intro w1 hr1 hb1 hs1)
          | (refine Dk.wpList_alloc rfl 30 rfl _ (Dk.z30 _) ?_; intro w2 hg2 hb2 hs2; have R2 := Lib.hid (hr1.below hb2); have c0 := R2.out.c0; have c4 := R2.out.c4; have hb12 := hb1.trans (hb2.mono hb1.size))
          | (refine Dk.wpList_load30 rfl _ rfl w.heap.size rfl r sv wv R2.out ?_)
          | (refine Dk.wpList_store30 rfl _ _ rfl w1.heap.size rfl r sv wv rfl _ hg2 rfl (H.out.fr rfl hb12) ?_; intro w3 hr3 hf3))
        refine bodyPost_ret (Dk.res_cell_tmp rfl _ _ w1.heap.size r sv wv rfl hr3) rfl ?_
        have hb3 := hb12.trans (hf3.below hb12.size (fun k hk => by omega))
        exact ⟨sv, wv, rfl, H.out.fr rfl hb3, hb3⟩
      · have h5' : d.length = 512 := by omega
        clear h5
        by_cases hd : r.down = true
        · rw [(Dk.lay_down ⟨h0, h1⟩ h5' hd).1, (Dk.lay_down ⟨h0, h1⟩ h5' hd).2]
          go_enter Try.func27, Try.ntmps27
          go_wp2_with (first
            | (refine Dk.wpList_box30 rfl _ rfl r sv wv rfl ?_; intro w1 hr1 hb1 hs1)
            | (refine Dk.wpList_alloc rfl 30 rfl _ (Dk.z30 _) ?_; intro w2 hg2 hb2 hs2; have R2 := Lib.hid (hr1.below hb2); have c0 := R2.out.c0; have c4 := R2.out.c4; rw [hd] at c4; have hb12 := hb1.trans (hb2.mono hb1.size))
            | (refine Dk.wpList_load30 rfl _ rfl w.heap.size rfl r sv wv R2.out ?_)
            | (refine Dk.wpList_store30 rfl _ _ rfl w1.heap.size rfl r sv wv rfl _ hg2 rfl (H.out.fr rfl hb12) ?_; intro w3 hr3 hf3))
          refine bodyPost_ret (Dk.res_cell_tmp rfl _ _ w1.heap.size r sv wv rfl hr3) rfl ?_
          have hb3 := hb12.trans (hf3.below hb12.size (fun k hk => by omega))
          exact ⟨sv, wv, rfl, H.out.fr rfl hb3, hb3⟩
        · have hd' : r.down = false := by simpa using hd
          rw [(Dk.lay_ok ⟨h0, h1⟩ h5' hd').1, (Dk.lay_ok ⟨h0, h1⟩ h5' hd').2]
          clear hd
          cases hdn : r.done with
          | true =>
            have HD := Lib.hid hdn
            clear hdn
            rw [if_pos rfl]
            go_enter Try.func27, Try.ntmps27
            go_wp2_with (first
              | (refine Dk.wpList_box30 rfl _ rfl r sv wv rfl ?_; intro w1 hr1 hb1 hs1)
              | (refine Dk.wpList_alloc rfl 30 rfl _ (Dk.z30 _) ?_; intro w2 hg2 hb2 hs2; have R2 := Lib.hid (hr1.below hb2); have c0 := R2.out.c0; have c4 := R2.out.c4; rw [hd'] at c4; have hb12 := hb1.trans (hb2.mono hb1.size))
              | (refine Dk.wpList_load30 rfl _ rfl w.heap.size rfl r sv wv R2.out ?_)
              | (go_at_call 40; refine (rnext _ r sv wv (H.out.fr rfl hb12) HA.out).mono ?_; rw [HD.out]; rintro e w3 ⟨rfl, hb3⟩; have R3 := Lib.hid (R2.out.below hb3); have G3 := Lib.hid ((hb3.block _ (Dk.lt_of_some hg2)).trans hg2); have hb123 := hb12.trans (hb3.mono hb12.size); clear R2)
              | (refine Dk.wpList_store30 rfl _ _ rfl w.heap.size rfl r.next sv wv rfl _ R3.out rfl ((H.out.fr rfl hb123).of HE.out.1 HE.out.2) ?_; intro w4 hr4 hf4; have R4 := Lib.hid hr4; have k2 := R4.out.c2; have G4 := Lib.hid ((hf4.block _ (Dk.lt_of_some G3.out) (by omega)).trans G3.out); have hb4 := hb123.trans (hf4.below hb123.size (fun k hk => by omega)); clear R3 hr4)
              | (go_at_call 41; refine (rjoined _ wv _ r.wait [(i, d)] (((H.out.fr rfl hb4).2.1).below ((Below.refl _ w4).alloc (Nat.le_refl _) _)) (Dk.RW.one w4 i d) (by have := H.out.2.2; simp; omega)).mono ?_; rintro e w5 ⟨A, cap, rfl, HJ', hb5'⟩; have HJ : Hid (Dk.RW w5 (.slice A (r.wait.length + 1) cap) (r.wait ++ [(i, d)])) := HJ'; have hb5 : Below w4.heap.size w4 w5 := ((Below.refl _ w4).alloc (Nat.le_refl _) _).trans (hb5'.mono (by simp)); have R5 := Lib.hid (R4.out.below hb5); have G5 := Lib.hid ((hb5.block _ (Dk.lt_of_some G4.out)).trans G4.out); have hb45 := hb4.trans (hb5.mono hb4.size); have m2 := R5.out.c2; have f2 := R5.out.free 2; have R6 := Lib.hid (R5.out.set 2 (.slice A (r.wait.length + 1) cap) { r.next with wait := r.wait ++ [(i, d)] } sv (.slice A (r.wait.length + 1) cap) rfl); have hb6 := hb45.setCell (p := ⟨w.heap.size, 2, none⟩) (Nat.le_refl _) (.slice A (r.wait.length + 1) cap); have HJ6 := Lib.hid (HJ.out.set30 (j := 2) (u := (.slice A (r.wait.length + 1) cap)) R5.out); have HR6 : Hid (Dk.RR _ { r.next with wait := r.wait ++ [(i, d)] } sv (.slice A (r.wait.length + 1) cap)) := ⟨by rw [show Dk.R.safe { r.next with wait := r.wait ++ [(i, d)] } = r.safe from HE.out.1]; exact (H.out.fr rfl hb6).1, HJ6.out, by rw [show Dk.R.safe { r.next with wait := r.wait ++ [(i, d)] } = r.safe from HE.out.1]; exact HLn.out⟩; have G6 := Lib.hid ((Below.heap_setCell w5 ⟨w.heap.size, 2, none⟩ (.slice A (r.wait.length + 1) cap) w1.heap.size (by show w1.heap.size ≠ w.heap.size; omega)).trans G5.out); clear R4 HJ')
              | (refine Dk.wpList_load30 rfl _ rfl w.heap.size rfl { r.next with wait := r.wait ++ [(i, d)] } sv (.slice A (r.wait.length + 1) cap) R6.out ?_)
              | (refine Dk.wpList_store30 rfl _ _ rfl w1.heap.size rfl { r.next with wait := r.wait ++ [(i, d)] } sv (.slice A (r.wait.length + 1) cap) rfl _ G6.out rfl HR6.out ?_; intro w8 hr8 hf8))
            refine bodyPost_ret (Dk.res_cell_tmp rfl _ _ w1.heap.size { r.next with wait := r.wait ++ [(i, d)] } sv (.slice A (r.wait.length + 1) cap) rfl hr8) rfl ?_
            have hb8 := hb6.trans (hf8.below hb6.size (fun k hk => by omega))
            exact ⟨_, _, rfl, ⟨HR6.out.1.fr30 G6.out hf8, HR6.out.2.1.fr30 G6.out hf8, HR6.out.2.2⟩, hb8⟩
          | false =>
            have HD := Lib.hid hdn
            clear hdn
            rw [if_neg (by simp)]
            go_enter Try.func27, Try.ntmps27
            go_wp2_with (first
              | (refine Dk.wpList_box30 rfl _ rfl r sv wv rfl ?_; intro w1 hr1 hb1 hs1)
              | (refine Dk.wpList_alloc rfl 30 rfl _ (Dk.z30 _) ?_; intro w2 hg2 hb2 hs2; have R2 := Lib.hid (hr1.below hb2); have c0 := R2.out.c0; have c4 := R2.out.c4; rw [hd'] at c4; have hb12 := hb1.trans (hb2.mono hb1.size))
              | (refine Dk.wpList_load30 rfl _ rfl w.heap.size rfl r sv wv R2.out ?_)
              | (go_at_call 40; refine (rnext _ r sv wv (H.out.fr rfl hb12) HA.out).mono ?_; rw [HD.out]; rintro e w3 ⟨rfl, hb3⟩; have R3 := Lib.hid (R2.out.below hb3); have G3 := Lib.hid ((hb3.block _ (Dk.lt_of_some hg2)).trans hg2); have hb123 := hb12.trans (hb3.mono hb12.size); clear R2)
              | (refine Dk.wpList_store30 rfl _ _ rfl w.heap.size rfl r.next sv wv rfl _ R3.out rfl ((H.out.fr rfl hb123).of HE.out.1 HE.out.2) ?_; intro w4 hr4 hf4; have R4 := Lib.hid hr4; have k2 := R4.out.c2; have G4 := Lib.hid ((hf4.block _ (Dk.lt_of_some G3.out) (by omega)).trans G3.out); have hb4 := hb123.trans (hf4.below hb123.size (fun k hk => by omega)); clear R3 hr4)
              | (go_at_call 41; refine (rjoined _ wv _ r.wait [(i, d)] (((H.out.fr rfl hb4).2.1).below ((Below.refl _ w4).alloc (Nat.le_refl _) _)) (Dk.RW.one w4 i d) (by have := H.out.2.2; simp; omega)).mono ?_; rintro e w5 ⟨A, cap, rfl, HJ', hb5'⟩; have HJ : Hid (Dk.RW w5 (.slice A (r.wait.length + 1) cap) (r.wait ++ [(i, d)])) := HJ'; have hb5 : Below w4.heap.size w4 w5 := ((Below.refl _ w4).alloc (Nat.le_refl _) _).trans (hb5'.mono (by simp)); have R5 := Lib.hid (R4.out.below hb5); have G5 := Lib.hid ((hb5.block _ (Dk.lt_of_some G4.out)).trans G4.out); have hb45 := hb4.trans (hb5.mono hb4.size); have m2 := R5.out.c2; have f2 := R5.out.free 2; have R6 := Lib.hid (R5.out.set 2 (.slice A (r.wait.length + 1) cap) { r.next with wait := r.wait ++ [(i, d)] } sv (.slice A (r.wait.length + 1) cap) rfl); have hb6 := hb45.setCell (p := ⟨w.heap.size, 2, none⟩) (Nat.le_refl _) (.slice A (r.wait.length + 1) cap); have HJ6 := Lib.hid (HJ.out.set30 (j := 2) (u := (.slice A (r.wait.length + 1) cap)) R5.out); have HR6 : Hid (Dk.RR _ { r.next with wait := r.wait ++ [(i, d)] } sv (.slice A (r.wait.length + 1) cap)) := ⟨by rw [show Dk.R.safe { r.next with wait := r.wait ++ [(i, d)] } = r.safe from HE.out.1]; exact (H.out.fr rfl hb6).1, HJ6.out, by rw [show Dk.R.safe { r.next with wait := r.wait ++ [(i, d)] } = r.safe from HE.out.1]; exact HLn.out⟩; have G6 := Lib.hid ((Below.heap_setCell w5 ⟨w.heap.size, 2, none⟩ (.slice A (r.wait.length + 1) cap) w1.heap.size (by show w1.heap.size ≠ w.heap.size; omega)).trans G5.out); clear R4 HJ')
              | (refine Dk.wpList_load30 rfl _ rfl w.heap.size rfl { r.next with wait := r.wait ++ [(i, d)] } sv (.slice A (r.wait.length + 1) cap) R6.out ?_)
              | (refine Dk.wpList_store30 rfl _ _ rfl w1.heap.size rfl { r.next with wait := r.wait ++ [(i, d)] } sv (.slice A (r.wait.length + 1) cap) rfl _ G6.out rfl HR6.out ?_; intro w8 hr8 hf8))
            refine bodyPost_ret (Dk.res_cell_tmp rfl _ _ w1.heap.size { r.next with wait := r.wait ++ [(i, d)] } sv (.slice A (r.wait.length + 1) cap) rfl hr8) rfl ?_
            have hb8 := hb6.trans (hf8.below hb6.size (fun k hk => by omega))
            exact ⟨_, _, rfl, ⟨HR6.out.1.fr30 G6.out hf8, HR6.out.2.1.fr30 G6.out hf8, HR6.out.2.2⟩, hb8⟩
    · rw [(Dk.lay_far (fun h => h1 h.2)).1, (Dk.lay_far (fun h => h1 h.2)).2]
      go_enter Try.func27, Try.ntmps27
      go_wp2_with (first
        | (refine Dk.wpList_box30 rfl _ rfl r sv wv rfl ?_; intro w1 hr1 hb1 hs1)
        | (refine Dk.wpList_alloc rfl 30 rfl _ (Dk.z30 _) ?_; intro w2 hg2 hb2 hs2; have R2 := Lib.hid (hr1.below hb2); have c0 := R2.out.c0; have hb12 := hb1.trans (hb2.mono hb1.size))
        | (refine Dk.wpList_load30 rfl _ rfl w.heap.size rfl r sv wv R2.out ?_)
        | (refine Dk.wpList_store30 rfl _ _ rfl w1.heap.size rfl r sv wv rfl _ hg2 rfl (H.out.fr rfl hb12) ?_; intro w3 hr3 hf3))
      refine bodyPost_ret (Dk.res_cell_tmp rfl _ _ w1.heap.size r sv wv rfl hr3) rfl ?_
      have hb3 := hb12.trans (hf3.below hb12.size (fun k hk => by omega))
      exact ⟨sv, wv, rfl, H.out.fr rfl hb3, hb3⟩
  · rw [(Dk.lay_far (fun h => h0 h.1)).1, (Dk.lay_far (fun h => h0 h.1)).2]
    go_enter Try.func27, Try.ntmps27
    go_wp2_with (first
      | (refine Dk.wpList_box30 rfl _ rfl r sv wv rfl ?_; intro w1 hr1 hb1 hs1)
      | (refine Dk.wpList_alloc rfl 30 rfl _ (Dk.z30 _) ?_; intro w2 hg2 hb2 hs2; have R2 := Lib.hid (hr1.below hb2); have c0 := R2.out.c0; have hb12 := hb1.trans (hb2.mono hb1.size))
      | (refine Dk.wpList_load30 rfl _ rfl w.heap.size rfl r sv wv R2.out ?_)
      | (refine Dk.wpList_store30 rfl _ _ rfl w1.heap.size rfl r sv wv rfl _ hg2 rfl (H.out.fr rfl hb12) ?_; intro w3 hr3 hf3))
    refine bodyPost_ret (Dk.res_cell_tmp rfl _ _ w1.heap.size r sv wv rfl hr3) rfl ?_
    have hb3 := hb12.trans (hf3.below hb12.size (fun k hk => by omega))
    exact ⟨sv, wv, rfl, H.out.fr rfl hb3, hb3⟩
end Go.Proofs.Ytngpdjkeoodigaa
