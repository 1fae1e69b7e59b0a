/- Contract of play: any other number. -/
import Derived.Test.YtngpdjkeoodigaaPlayB
namespace Go.Proofs.Ytngpdjkeoodigaa
open Go.RowKit

set_option maxRecDepth 100000 in
set_option maxHeartbeats 4000000 in
theorem play_else (w0 w : World) (p : Nat) (s : Dk.S) (r : Dk.R) (sv wv : Value) (x : Dk.ActD) (Ad Ak : Option Addr) (cd ck : Nat) (h : Dk.Pre w0 w p s r sv wv x Ad Ak) (hk : ¬ (0 ≤ x.kind ∧ x.kind ≤ 8)) :
    Calls Try.prog 11 #[.pointer (some ⟨p, 0, none⟩), Dk.rv r sv wv, Dk.av x Ad Ak cd ck] w (Dk.Post w0 w r) := by
  have HP := Lib.hid h
  have HC := Lib.hid h.cnt
  clear h
  have hb : ∀ k : Int, 0 ≤ k → k ≤ 8 → (x.kind == k) = false := fun k h1 h2 => beq_eq_false_iff_ne.2 (by omega)
  have b0 := hb 0 (by omega) (by omega)
  have b1 := hb 1 (by omega) (by omega)
  have b2 := hb 2 (by omega) (by omega)
  have b3 := hb 3 (by omega) (by omega)
  have b4 := hb 4 (by omega) (by omega)
  have b5 := hb 5 (by omega) (by omega)
  have b6 := hb 6 (by omega) (by omega)
  have b7 := hb 7 (by omega) (by omega)
  have b8 := hb 8 (by omega) (by omega)
  clear hb hk
  go_enter Try.func11, Try.ntmps11
  go_wp2_with (first
    | (refine Dk.wpList_box30 rfl _ rfl r sv wv rfl ?_; intro w1 hr1 hb1 hs1)
    | (refine Dk.wpList_box37 rfl _ rfl x Ad Ak cd ck rfl ?_; intro w2 ha2 hb2 hs2)
    | (refine Dk.wpList_alloc rfl 30 rfl _ (Dk.z30 _) ?_; intro w3 hz3 hb3 hs3; have S3 := Lib.hid (Dk.St.start HP.out hr1 hb1 hs1 ha2 hb2 hs2 hz3 hb3); have c0 := S3.out.vars.a.c0; skip; clear hr1 ha2 hz3))
  go_wp2_with (fail)
  have HSd := Lib.hid S3.out.drew
  refine wp_region_noPanic ?_
  refine wp_region_held_drew (S := fun w' => w'.rangeAt w.heap.size 0 (Dk.rc r sv wv)) (by kernel_rfl) (HSd.out.vars.m.range) (fun hHeld => ?_)
  refine wpAnyH_take (i := 0) (oi := ⟨some 130, _, _, _, _, _⟩) (v := ?_) rfl (by kernel_rfl) (by kernel_rfl) (by kernel_rfl) (fun _ _ _ h => h) (Or.inl ⟨by rfl, ?_⟩) (by assumption) ?_
  rotate_left
  · (intro w hSw; (try dsimp only at hSw); go_simp <;> with_reducible rfl)
  try simp only [Act.put]
  try simp only [List.setIfInBounds_toArray]
  try simp only [List.set_cons_succ]
  try simp only [List.set_cons_zero]
  refine wpAnyH_take (i := 1) (oi := ⟨some 131, _, _, _, _, _⟩) (v := Dk.rv r sv wv) rfl (by kernel_rfl) (by kernel_rfl) (by kernel_rfl) (fun _ _ _ h => h) (yieldsIf_load_mid (by rfl) 30 _ rfl w.heap.size 0 rfl (Dk.rc r sv wv) _ (fun _ h => h) Dk.u30 rfl Dk.i30) (by assumption) ?_
  try simp only [Act.put]
  try simp only [List.setIfInBounds_toArray]
  try simp only [List.set_cons_succ]
  try simp only [List.set_cons_zero]
  refine wpAnyH_take (i := 2) (oi := ⟨some 132, _, _, _, _, _⟩) (v := ?_) rfl (by kernel_rfl) (by kernel_rfl) (by kernel_rfl) (fun _ _ _ h => h) (Or.inl ⟨by rfl, ?_⟩) (by assumption) ?_
  rotate_left
  · (intro w hSw; (try dsimp only at hSw); go_simp <;> with_reducible rfl)
  try simp only [Act.put]
  try simp only [List.setIfInBounds_toArray]
  try simp only [List.set_cons_succ]
  try simp only [List.set_cons_zero]
  refine wpAnyH_take (i := 3) (oi := ⟨some 133, _, _, _, _, _⟩) (v := ?_) rfl (by kernel_rfl) (by kernel_rfl) (by kernel_rfl) (fun _ _ _ h => h) (Or.inl ⟨by rfl, ?_⟩) (by assumption) ?_
  rotate_left
  · (intro w hSw; (try dsimp only at hSw); go_simp <;> with_reducible rfl)
  try simp only [Act.put]
  try simp only [List.setIfInBounds_toArray]
  try simp only [List.set_cons_succ]
  try simp only [List.set_cons_zero]
  refine wpAnyH_take (i := 4) (oi := ⟨some 134, _, _, _, _, _⟩) (v := ?_) rfl (by kernel_rfl) (by kernel_rfl) (by kernel_rfl) (fun _ _ _ h => h) (Or.inl ⟨by rfl, ?_⟩) (by assumption) ?_
  rotate_left
  · (intro w hSw; (try dsimp only at hSw); go_simp <;> with_reducible rfl)
  try simp only [Act.put]
  try simp only [List.setIfInBounds_toArray]
  try simp only [List.set_cons_succ]
  try simp only [List.set_cons_zero]
  refine wpAnyH_take (i := 5) (oi := ⟨some 135, _, _, _, _, _⟩) (v := ?_) rfl (by kernel_rfl) (by kernel_rfl) (by kernel_rfl) (fun _ _ _ h => h) (Or.inl ⟨by rfl, ?_⟩) (by assumption) ?_
  rotate_left
  · (intro w hSw; (try dsimp only at hSw); go_simp <;> with_reducible rfl)
  try simp only [Act.put]
  try simp only [List.setIfInBounds_toArray]
  try simp only [List.set_cons_succ]
  try simp only [List.set_cons_zero]
  refine wpAnyH_take (i := 6) (oi := ⟨some 136, _, _, _, _, _⟩) (v := ?_) rfl (by kernel_rfl) (by kernel_rfl) (by kernel_rfl) (fun _ _ _ h => h) (Or.inl ⟨by rfl, ?_⟩) (by assumption) ?_
  rotate_left
  · (intro w hSw; (try dsimp only at hSw); go_simp <;> with_reducible rfl)
  try simp only [Act.put]
  try simp only [List.setIfInBounds_toArray]
  try simp only [List.set_cons_succ]
  try simp only [List.set_cons_zero]
  refine wpAnyH_take (i := 7) (oi := ⟨some 137, _, _, _, _, _⟩) (v := ?_) rfl (by kernel_rfl) (by kernel_rfl) (by kernel_rfl) (fun _ _ _ h => h) (Or.inl ⟨by rfl, ?_⟩) (by assumption) ?_
  rotate_left
  · (intro w hSw; (try dsimp only at hSw); go_simp <;> with_reducible rfl)
  try simp only [Act.put]
  try simp only [List.setIfInBounds_toArray]
  try simp only [List.set_cons_succ]
  try simp only [List.set_cons_zero]
  refine wpAnyH_take (i := 8) (oi := ⟨some 138, _, _, _, _, _⟩) (v := ?_) rfl (by kernel_rfl) (by kernel_rfl) (by kernel_rfl) (fun _ _ _ h => h) (Or.inl ⟨by rfl, ?_⟩) (by assumption) ?_
  rotate_left
  · (intro w hSw; (try dsimp only at hSw); go_simp <;> with_reducible rfl)
  try simp only [Act.put]
  try simp only [List.setIfInBounds_toArray]
  try simp only [List.set_cons_succ]
  try simp only [List.set_cons_zero]
  refine wpAnyH_take (i := 9) (oi := ⟨some 6, _, _, _, _, _⟩) (v := ?_) rfl (by kernel_rfl) (by kernel_rfl) (by kernel_rfl) (fun _ _ _ h => h) (Or.inl ⟨by rfl, ?_⟩) (by assumption) ?_
  rotate_left
  · (intro w hSw; (try dsimp only at hSw); go_simp <;> with_reducible rfl)
  try simp only [Act.put]
  try simp only [List.setIfInBounds_toArray]
  try simp only [List.set_cons_succ]
  try simp only [List.set_cons_zero]
  refine wpAnyH_ready (rs := [10]) (by kernel_rfl) (by simp) ?_
  refine AllReadyH.cons (o := ⟨none, _, _, _, _, _⟩) rfl (fun K hK => ?_) AllReadyH.nil
  rw [if_pos (by rfl)]
  obtain ⟨zs, hz6, hzb⟩ := HSd.out.vars.z
  refine Dk.wp_store30 _ _ rfl w2.heap.size rfl r sv wv rfl zs hzb hz6 HSd.out.rr ?_
  intro w9 hr9 hf9
  have R9 := HSd.out.vars.m.kept (hf9.block _ HSd.out.vars.m.lt (Ne.symm HSd.out.ne.2))
  obtain ⟨E1, E2, E3⟩ := HSd.out.fin hf9
  refine hK.out _ _ ?_ (fun hHeld3 => ?_)
  · exact R9.range
  clear hK K
  try simp only [Act.put]
  try simp only [List.setIfInBounds_toArray]
  try simp only [List.set_cons_succ]
  try simp only [List.set_cons_zero]
  refine wpAnyH_take (i := 11) (oi := ⟨some 8, _, _, _, _, _⟩) (v := ?_) rfl (by kernel_rfl) (by kernel_rfl) (by kernel_rfl) (fun _ _ _ h => h) (Or.inl ⟨by rfl, ?_⟩) (by assumption) ?_
  rotate_left
  · (intro w hSw; (try dsimp only at hSw); go_simp <;> with_reducible rfl)
  try simp only [Act.put]
  try simp only [List.setIfInBounds_toArray]
  try simp only [List.set_cons_succ]
  try simp only [List.set_cons_zero]
  refine wpAnyH_done (by kernel_rfl) ?_ _
  refine NoPanic.normal ?_
  go_wp2_with (fail)
  refine bodyPost_ret (Dk.res3 rfl _ _ w2.heap.size r sv wv rfl hr9) rfl ?_
  exact ⟨_, _, _, _, _, rfl, E1, E2, HP.out.rel, E3, ⟨by omega, rfl⟩⟩
end Go.Proofs.Ytngpdjkeoodigaa
