/- Contract of play: 3. -/
import Derived.Test.YtngpdjkeoodigaaPlayB
namespace Go.Proofs.Ytngpdjkeoodigaa
open Go.RowKit

set_option maxRecDepth 100000 in
set_option maxHeartbeats 4000000 in
theorem play_3 (w0 w : World) (p : Nat) (s : Dk.S) (r : Dk.R) (sv wv : Value) (x : Dk.ActD) (Ad Ak : Option Addr) (cd ck : Nat) (h : Dk.Pre w0 w p s r sv wv x Ad Ak) (hk : x.kind = 3) :
    Calls Try.prog 11 #[.pointer (some ⟨p, 0, none⟩), Dk.rv r sv wv, Dk.av x Ad Ak cd ck] w (Dk.Post w0 w r) := by
  have HP := Lib.hid h
  have HC := Lib.hid h.cnt
  clear h
  have HE := Lib.hid HP.out.rel.flush
  have HN := Lib.hid (Dk.flush_count r)
  go_enter Try.func11, Try.ntmps11
  go_wp2_with (first
    | (refine Dk.wpList_box30 rfl _ rfl r sv wv rfl ?_; intro w1 hr1 hb1 hs1)
    | (refine Dk.wpList_box37 rfl _ rfl x Ad Ak cd ck rfl ?_; intro w2 ha2 hb2 hs2)
    | (refine Dk.wpList_alloc rfl 30 rfl _ (Dk.z30 _) ?_; intro w3 hz3 hb3 hs3; have S3 := Lib.hid (Dk.St.start HP.out hr1 hb1 hs1 ha2 hb2 hs2 hz3 hb3); have c0 := S3.out.vars.a.c0; rw [hk] at c0; clear hr1 ha2 hz3)
    | (refine Dk.wpList_load30 rfl _ rfl w.heap.size rfl r sv wv S3.out.vars.m ?_)
    | (go_at_call 28; refine (rflush _ r sv wv S3.out.rr HP.out.rel.br).mono ?_; rintro e w4 ⟨sv', wv', rfl, HR4, hb4⟩; have S4 := Lib.hid (S3.out.below hb4))
    | (refine Dk.wpList_store30 rfl _ _ rfl w.heap.size rfl r.flush sv' wv' rfl _ S4.out.vars.m rfl HR4.out ?_; intro w5 hr5 hf5; have S5 := Lib.hid (S4.out.put HR4.out hr5 hf5))
    | (go_at_call 23; have hc := flush_keep S5.out.live (by rw [HP.out.rel.wt]; have := HC.out; omega) HP.out.rel.bl; rw [HE.out.2] at hc; refine hc.mono ?_; rintro e w6 ⟨rfl, L6, K6⟩; have S6 := Lib.hid (S5.out.disk L6.out K6.out); clear hc))
  go_wp2_with (fail)
  have HSd := Lib.hid S6.out.drew
  refine wp_region_noPanic ?_
  refine wp_region_held_drew (S := fun w' => w'.rangeAt w.heap.size 0 (Dk.rc r.flush sv' wv')) (by kernel_rfl) (HSd.out.vars.m.range) (fun hHeld => ?_)
  refine wpAnyH_take (i := 0) (oi := ⟨some 130, _, _, _, _, _⟩) (v := ?_) rfl (by kernel_rfl) (by kernel_rfl) (by kernel_rfl) (fun _ _ _ h => h) (Or.inl ⟨by rfl, ?_⟩) (by assumption) ?_
  rotate_left
  · (intro w hSw; (try dsimp only at hSw); go_simp <;> with_reducible rfl)
  try simp only [Act.put]
  try simp only [List.setIfInBounds_toArray]
  try simp only [List.set_cons_succ]
  try simp only [List.set_cons_zero]
  refine wpAnyH_take (i := 1) (oi := ⟨some 131, _, _, _, _, _⟩) (v := Dk.rv r.flush sv' wv') rfl (by kernel_rfl) (by kernel_rfl) (by kernel_rfl) (fun _ _ _ h => h) (yieldsIf_load_mid (by rfl) 30 _ rfl w.heap.size 0 rfl (Dk.rc r.flush sv' wv') _ (fun _ h => h) Dk.u30 rfl Dk.i30) (by assumption) ?_
  try simp only [Act.put]
  try simp only [List.setIfInBounds_toArray]
  try simp only [List.set_cons_succ]
  try simp only [List.set_cons_zero]
  refine wpAnyH_take (i := 2) (oi := ⟨some 132, _, _, _, _, _⟩) (v := ?_) rfl (by kernel_rfl) (by kernel_rfl) (by kernel_rfl) (fun _ _ _ h => h) (Or.inl ⟨by rfl, ?_⟩) (by assumption) ?_
  rotate_left
  · (intro w hSw; (try dsimp only at hSw); go_simp <;> with_reducible rfl)
  try simp only [Act.put]
  try simp only [List.setIfInBounds_toArray]
  try simp only [List.set_cons_succ]
  try simp only [List.set_cons_zero]
  refine wpAnyH_take (i := 3) (oi := ⟨some 133, _, _, _, _, _⟩) (v := ?_) rfl (by kernel_rfl) (by kernel_rfl) (by kernel_rfl) (fun _ _ _ h => h) (Or.inl ⟨by rfl, ?_⟩) (by assumption) ?_
  rotate_left
  · (intro w hSw; (try dsimp only at hSw); go_simp <;> with_reducible rfl)
  try simp only [Act.put]
  try simp only [List.setIfInBounds_toArray]
  try simp only [List.set_cons_succ]
  try simp only [List.set_cons_zero]
  refine wpAnyH_take (i := 4) (oi := ⟨some 134, _, _, _, _, _⟩) (v := ?_) rfl (by kernel_rfl) (by kernel_rfl) (by kernel_rfl) (fun _ _ _ h => h) (Or.inl ⟨by rfl, ?_⟩) (by assumption) ?_
  rotate_left
  · (intro w hSw; (try dsimp only at hSw); go_simp <;> with_reducible rfl)
  try simp only [Act.put]
  try simp only [List.setIfInBounds_toArray]
  try simp only [List.set_cons_succ]
  try simp only [List.set_cons_zero]
  refine wpAnyH_take (i := 5) (oi := ⟨some 135, _, _, _, _, _⟩) (v := ?_) rfl (by kernel_rfl) (by kernel_rfl) (by kernel_rfl) (fun _ _ _ h => h) (Or.inl ⟨by rfl, ?_⟩) (by assumption) ?_
  rotate_left
  · (intro w hSw; (try dsimp only at hSw); go_simp <;> with_reducible rfl)
  try simp only [Act.put]
  try simp only [List.setIfInBounds_toArray]
  try simp only [List.set_cons_succ]
  try simp only [List.set_cons_zero]
  refine wpAnyH_take (i := 6) (oi := ⟨some 136, _, _, _, _, _⟩) (v := ?_) rfl (by kernel_rfl) (by kernel_rfl) (by kernel_rfl) (fun _ _ _ h => h) (Or.inl ⟨by rfl, ?_⟩) (by assumption) ?_
  rotate_left
  · (intro w hSw; (try dsimp only at hSw); go_simp <;> with_reducible rfl)
  try simp only [Act.put]
  try simp only [List.setIfInBounds_toArray]
  try simp only [List.set_cons_succ]
  try simp only [List.set_cons_zero]
  refine wpAnyH_take (i := 7) (oi := ⟨some 137, _, _, _, _, _⟩) (v := ?_) rfl (by kernel_rfl) (by kernel_rfl) (by kernel_rfl) (fun _ _ _ h => h) (Or.inl ⟨by rfl, ?_⟩) (by assumption) ?_
  rotate_left
  · (intro w hSw; (try dsimp only at hSw); go_simp <;> with_reducible rfl)
  try simp only [Act.put]
  try simp only [List.setIfInBounds_toArray]
  try simp only [List.set_cons_succ]
  try simp only [List.set_cons_zero]
  refine wpAnyH_take (i := 8) (oi := ⟨some 138, _, _, _, _, _⟩) (v := ?_) rfl (by kernel_rfl) (by kernel_rfl) (by kernel_rfl) (fun _ _ _ h => h) (Or.inl ⟨by rfl, ?_⟩) (by assumption) ?_
  rotate_left
  · (intro w hSw; (try dsimp only at hSw); go_simp <;> with_reducible rfl)
  try simp only [Act.put]
  try simp only [List.setIfInBounds_toArray]
  try simp only [List.set_cons_succ]
  try simp only [List.set_cons_zero]
  refine wpAnyH_take (i := 9) (oi := ⟨some 6, _, _, _, _, _⟩) (v := ?_) rfl (by kernel_rfl) (by kernel_rfl) (by kernel_rfl) (fun _ _ _ h => h) (Or.inl ⟨by rfl, ?_⟩) (by assumption) ?_
  rotate_left
  · (intro w hSw; (try dsimp only at hSw); go_simp <;> with_reducible rfl)
  try simp only [Act.put]
  try simp only [List.setIfInBounds_toArray]
  try simp only [List.set_cons_succ]
  try simp only [List.set_cons_zero]
  refine wpAnyH_ready (rs := [10]) (by kernel_rfl) (by simp) ?_
  refine AllReadyH.cons (o := ⟨none, _, _, _, _, _⟩) rfl (fun K hK => ?_) AllReadyH.nil
  rw [if_pos (by rfl)]
  obtain ⟨zs, hz6, hzb⟩ := HSd.out.vars.z
  refine Dk.wp_store30 _ _ rfl w2.heap.size rfl r.flush sv' wv' rfl zs hzb hz6 HSd.out.rr ?_
  intro w9 hr9 hf9
  have R9 := HSd.out.vars.m.kept (hf9.block _ HSd.out.vars.m.lt (Ne.symm HSd.out.ne.2))
  obtain ⟨E1, E2, E3⟩ := HSd.out.fin hf9
  refine hK.out _ _ ?_ (fun hHeld3 => ?_)
  · exact R9.range
  clear hK K
  try simp only [Act.put]
  try simp only [List.setIfInBounds_toArray]
  try simp only [List.set_cons_succ]
  try simp only [List.set_cons_zero]
  refine wpAnyH_take (i := 11) (oi := ⟨some 8, _, _, _, _, _⟩) (v := ?_) rfl (by kernel_rfl) (by kernel_rfl) (by kernel_rfl) (fun _ _ _ h => h) (Or.inl ⟨by rfl, ?_⟩) (by assumption) ?_
  rotate_left
  · (intro w hSw; (try dsimp only at hSw); go_simp <;> with_reducible rfl)
  try simp only [Act.put]
  try simp only [List.setIfInBounds_toArray]
  try simp only [List.set_cons_succ]
  try simp only [List.set_cons_zero]
  refine wpAnyH_done (by kernel_rfl) ?_ _
  refine NoPanic.normal ?_
  go_wp2_with (fail)
  refine bodyPost_ret (Dk.res3 rfl _ _ w2.heap.size r.flush sv' wv' rfl hr9) rfl ?_
  exact ⟨_, _, _, _, _, rfl, E1, E2, HE.out.1, E3, HN.out⟩
end Go.Proofs.Ytngpdjkeoodigaa
