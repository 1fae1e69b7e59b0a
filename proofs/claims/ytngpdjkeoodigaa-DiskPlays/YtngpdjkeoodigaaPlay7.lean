/- Contract of play: 7. -/
import Derived.Test.YtngpdjkeoodigaaPlayC
namespace Go.Proofs.Ytngpdjkeoodigaa
open Go.RowKit

set_option maxRecDepth 100000 in
set_option maxHeartbeats 4000000 in
theorem play_7 (w0 w : World) (p : Nat) (s : Dk.S) (r : Dk.R) (sv wv : Value) (x : Dk.ActD) (Ad Ak : Option Addr) (cd ck : Nat) (h : Dk.Pre w0 w p s r sv wv x Ad Ak) (hk : x.kind = 7) :
    Calls Try.prog 11 #[.pointer (some ⟨p, 0, none⟩), Dk.rv r sv wv, Dk.av x Ad Ak cd ck] w (Dk.Post w0 w r) := by
  have HP := Lib.hid h
  have HC := Lib.hid h.cnt
  clear h
  have HW := Lib.hid (show s.wait.length < 100000 by rw [HP.out.rel.wt]; have := HC.out; omega)
  have HE := Lib.hid (HP.out.rel.restart [true, true, true])
  have hcv := Dk.conv_lit
  go_enter Try.func11, Try.ntmps11
  go_wp2_with (first
    | (refine Dk.wpList_box30 rfl _ rfl r sv wv rfl ?_; intro w1 hr1 hb1 hs1)
    | (refine Dk.wpList_box37 rfl _ rfl x Ad Ak cd ck rfl ?_; intro w2 ha2 hb2 hs2)
    | (refine Dk.wpList_alloc rfl 30 rfl _ (Dk.z30 _) ?_; intro w3 hz3 hb3 hs3; have S3 := Lib.hid (Dk.St.start HP.out hr1 hb1 hs1 ha2 hb2 hs2 hz3 hb3); have c0 := S3.out.vars.a.c0; rw [hk] at c0; clear hr1 ha2 hz3)
    | (go_at_call 25; refine (clone_keep S3.out.live HW.out).mono ?_; rintro e w4 ⟨rfl, T4, hb4⟩; have S4 := Lib.hid (S3.out.below hb4))
    | (go_at_call 19; refine (restart2_keep [true, true, true] (w := w4) T4.out (by rfl) (by rfl) HW.out).mono ?_; rintro e w5 ⟨rfl, T5, K5⟩)
    | (go_at_call 15; refine (full_new [111, 108, 100] (w := w5) (by rfl) (by rfl) (by decide)).mono ?_; rintro e w6 ⟨rfl, HRw, hb6⟩; have T6 := Lib.hid (T5.out.below hb6).1)
    | (go_at_call 16; refine (write2_keep 0 T6.out HRw.out (Nat.le_succ_of_le T5.out.one.bel.size) (Dk.length_full _) (by show 0 < 100000; omega) HE.out.bl).mono ?_; rintro e w7 ⟨rfl, T7, K7⟩; have S7 := Lib.hid (S4.out.disk T7.out.swap.one ((K5.out.trans (Dk.Keep.below hb6)).trans K7.out))))
  go_wp2_with (fail)
  have HSd := Lib.hid S7.out.drew
  refine wp_region_noPanic ?_
  refine wp_region_held_drew (S := fun w' => w'.rangeAt w.heap.size 0 (Dk.rc r sv wv)) (by kernel_rfl) (HSd.out.vars.m.range) (fun hHeld => ?_)
  refine wpAnyH_take (i := 0) (oi := ⟨some 130, _, _, _, _, _⟩) (v := ?_) rfl (by kernel_rfl) (by kernel_rfl) (by kernel_rfl) (fun _ _ _ h => h) (Or.inl ⟨by rfl, ?_⟩) (by assumption) ?_
  rotate_left
  · (intro w hSw; (try dsimp only at hSw); go_simp <;> with_reducible rfl)
  try simp only [Act.put]
  try simp only [List.setIfInBounds_toArray]
  try simp only [List.set_cons_succ]
  try simp only [List.set_cons_zero]
  refine wpAnyH_take (i := 1) (oi := ⟨some 131, _, _, _, _, _⟩) (v := Dk.rv r sv wv) rfl (by kernel_rfl) (by kernel_rfl) (by kernel_rfl) (fun _ _ _ h => h) (yieldsIf_load_mid (by rfl) 30 _ rfl w.heap.size 0 rfl (Dk.rc r sv wv) _ (fun _ h => h) Dk.u30 rfl Dk.i30) (by assumption) ?_
  try simp only [Act.put]
  try simp only [List.setIfInBounds_toArray]
  try simp only [List.set_cons_succ]
  try simp only [List.set_cons_zero]
  refine wpAnyH_take (i := 2) (oi := ⟨some 132, _, _, _, _, _⟩) (v := ?_) rfl (by kernel_rfl) (by kernel_rfl) (by kernel_rfl) (fun _ _ _ h => h) (Or.inl ⟨by rfl, ?_⟩) (by assumption) ?_
  rotate_left
  · (intro w hSw; (try dsimp only at hSw); go_simp <;> with_reducible rfl)
  try simp only [Act.put]
  try simp only [List.setIfInBounds_toArray]
  try simp only [List.set_cons_succ]
  try simp only [List.set_cons_zero]
  refine wpAnyH_take (i := 3) (oi := ⟨some 133, _, _, _, _, _⟩) (v := ?_) rfl (by kernel_rfl) (by kernel_rfl) (by kernel_rfl) (fun _ _ _ h => h) (Or.inl ⟨by rfl, ?_⟩) (by assumption) ?_
  rotate_left
  · (intro w hSw; (try dsimp only at hSw); go_simp <;> with_reducible rfl)
  try simp only [Act.put]
  try simp only [List.setIfInBounds_toArray]
  try simp only [List.set_cons_succ]
  try simp only [List.set_cons_zero]
  refine wpAnyH_take (i := 4) (oi := ⟨some 134, _, _, _, _, _⟩) (v := ?_) rfl (by kernel_rfl) (by kernel_rfl) (by kernel_rfl) (fun _ _ _ h => h) (Or.inl ⟨by rfl, ?_⟩) (by assumption) ?_
  rotate_left
  · (intro w hSw; (try dsimp only at hSw); go_simp <;> with_reducible rfl)
  try simp only [Act.put]
  try simp only [List.setIfInBounds_toArray]
  try simp only [List.set_cons_succ]
  try simp only [List.set_cons_zero]
  refine wpAnyH_take (i := 5) (oi := ⟨some 135, _, _, _, _, _⟩) (v := ?_) rfl (by kernel_rfl) (by kernel_rfl) (by kernel_rfl) (fun _ _ _ h => h) (Or.inl ⟨by rfl, ?_⟩) (by assumption) ?_
  rotate_left
  · (intro w hSw; (try dsimp only at hSw); go_simp <;> with_reducible rfl)
  try simp only [Act.put]
  try simp only [List.setIfInBounds_toArray]
  try simp only [List.set_cons_succ]
  try simp only [List.set_cons_zero]
  refine wpAnyH_take (i := 6) (oi := ⟨some 136, _, _, _, _, _⟩) (v := ?_) rfl (by kernel_rfl) (by kernel_rfl) (by kernel_rfl) (fun _ _ _ h => h) (Or.inl ⟨by rfl, ?_⟩) (by assumption) ?_
  rotate_left
  · (intro w hSw; (try dsimp only at hSw); go_simp <;> with_reducible rfl)
  try simp only [Act.put]
  try simp only [List.setIfInBounds_toArray]
  try simp only [List.set_cons_succ]
  try simp only [List.set_cons_zero]
  refine wpAnyH_take (i := 7) (oi := ⟨some 137, _, _, _, _, _⟩) (v := ?_) rfl (by kernel_rfl) (by kernel_rfl) (by kernel_rfl) (fun _ _ _ h => h) (Or.inl ⟨by rfl, ?_⟩) (by assumption) ?_
  rotate_left
  · (intro w hSw; (try dsimp only at hSw); go_simp <;> with_reducible rfl)
  try simp only [Act.put]
  try simp only [List.setIfInBounds_toArray]
  try simp only [List.set_cons_succ]
  try simp only [List.set_cons_zero]
  refine wpAnyH_take (i := 8) (oi := ⟨some 138, _, _, _, _, _⟩) (v := ?_) rfl (by kernel_rfl) (by kernel_rfl) (by kernel_rfl) (fun _ _ _ h => h) (Or.inl ⟨by rfl, ?_⟩) (by assumption) ?_
  rotate_left
  · (intro w hSw; (try dsimp only at hSw); go_simp <;> with_reducible rfl)
  try simp only [Act.put]
  try simp only [List.setIfInBounds_toArray]
  try simp only [List.set_cons_succ]
  try simp only [List.set_cons_zero]
  refine wpAnyH_take (i := 9) (oi := ⟨some 6, _, _, _, _, _⟩) (v := ?_) rfl (by kernel_rfl) (by kernel_rfl) (by kernel_rfl) (fun _ _ _ h => h) (Or.inl ⟨by rfl, ?_⟩) (by assumption) ?_
  rotate_left
  · (intro w hSw; (try dsimp only at hSw); go_simp <;> with_reducible rfl)
  try simp only [Act.put]
  try simp only [List.setIfInBounds_toArray]
  try simp only [List.set_cons_succ]
  try simp only [List.set_cons_zero]
  refine wpAnyH_ready (rs := [10]) (by kernel_rfl) (by simp) ?_
  refine AllReadyH.cons (o := ⟨none, _, _, _, _, _⟩) rfl (fun K hK => ?_) AllReadyH.nil
  rw [if_pos (by rfl)]
  obtain ⟨zs, hz6, hzb⟩ := HSd.out.vars.z
  refine Dk.wp_store30 _ _ rfl w2.heap.size rfl r sv wv rfl zs hzb hz6 HSd.out.rr ?_
  intro w9 hr9 hf9
  have R9 := HSd.out.vars.m.kept (hf9.block _ HSd.out.vars.m.lt (Ne.symm HSd.out.ne.2))
  obtain ⟨E1, E2, E3⟩ := HSd.out.fin hf9
  refine hK.out _ _ ?_ (fun hHeld3 => ?_)
  · exact R9.range
  clear hK K
  try simp only [Act.put]
  try simp only [List.setIfInBounds_toArray]
  try simp only [List.set_cons_succ]
  try simp only [List.set_cons_zero]
  refine wpAnyH_take (i := 11) (oi := ⟨some 8, _, _, _, _, _⟩) (v := ?_) rfl (by kernel_rfl) (by kernel_rfl) (by kernel_rfl) (fun _ _ _ h => h) (Or.inl ⟨by rfl, ?_⟩) (by assumption) ?_
  rotate_left
  · (intro w hSw; (try dsimp only at hSw); go_simp <;> with_reducible rfl)
  try simp only [Act.put]
  try simp only [List.setIfInBounds_toArray]
  try simp only [List.set_cons_succ]
  try simp only [List.set_cons_zero]
  refine wpAnyH_done (by kernel_rfl) ?_ _
  refine NoPanic.normal ?_
  go_wp2_with (fail)
  refine bodyPost_ret (Dk.res3 rfl _ _ w2.heap.size r sv wv rfl hr9) rfl ?_
  exact ⟨_, _, _, _, _, rfl, E1, E2, HP.out.rel, E3, ⟨by omega, rfl⟩⟩
end Go.Proofs.Ytngpdjkeoodigaa
