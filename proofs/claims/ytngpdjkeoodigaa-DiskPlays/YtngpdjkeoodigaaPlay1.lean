/- Contract of play: 1. -/
import Derived.Test.YtngpdjkeoodigaaPlayC
namespace Go.Proofs.Ytngpdjkeoodigaa
open Go.RowKit

set_option maxRecDepth 100000 in
set_option maxHeartbeats 4000000 in
theorem play_1 (w0 w : World) (p : Nat) (s : Dk.S) (r : Dk.R) (sv wv : Value) (x : Dk.ActD) (Ad Ak : Option Addr) (cd ck : Nat) (h : Dk.Pre w0 w p s r sv wv x Ad Ak) (hk : x.kind = 1) :
    Calls Try.prog 11 #[.pointer (some ⟨p, 0, none⟩), Dk.rv r sv wv, Dk.av x Ad Ak cd ck] w (Dk.Post w0 w r) := by
  have HP := Lib.hid h
  have HC := Lib.hid h.cnt
  clear h
  have HE := Lib.hid (HP.out.rel.lay x.i x.data)
  have HN := Lib.hid (Dk.lay_count r x.i x.data)
  have HLd := Lib.hid HP.out.ld
  have hld : x.data.length ≤ 140737488355328 := HP.out.ld
  have HW := Lib.hid (show s.wait.length < 100000 by rw [HP.out.rel.wt]; have := HC.out; omega)
  go_enter Try.func11, Try.ntmps11
  go_wp2_with (first
    | (refine Dk.wpList_box30 rfl _ rfl r sv wv rfl ?_; intro w1 hr1 hb1 hs1)
    | (refine Dk.wpList_box37 rfl _ rfl x Ad Ak cd ck rfl ?_; intro w2 ha2 hb2 hs2)
    | (refine Dk.wpList_alloc rfl 30 rfl _ (Dk.z30 _) ?_; intro w3 hz3 hb3 hs3; have S3 := Lib.hid (Dk.St.start HP.out hr1 hb1 hs1 ha2 hb2 hs2 hz3 hb3); have c0 := S3.out.vars.a.c0; rw [hk] at c0; have c3 := (S3.out.below ((Below.refl _ w3).alloc (Nat.le_refl _) (.cells #[] 5))).vars.a.c3; have c3' := S3.out.vars.a.c3; clear hr1 ha2 hz3)
    | (refine Dk.wpList_appendBytes rfl _ _ rfl (W := w3) rfl rfl Ad x.data cd rfl S3.out.dat HLd.out ?_; intro g4 cap4 w4 B4 hg4 hb4; have HB4 := Lib.hid B4; have S4 := Lib.hid (S3.out.below hb4); have d0 := S4.out.vars.a.c0; rw [hk] at d0; have d1 := S4.out.vars.a.c1; have q1 := Dk.conv B4.bts cap4; clear B4)
    | (refine Dk.wpList_load30 rfl _ rfl w.heap.size rfl r sv wv S4.out.vars.m ?_)
    | (go_at_call 27; refine (rlay _ r sv wv x.i x.data S4.out.rr HP.out.rel.br (by have := HC.out; omega)).mono ?_; rintro e w6 ⟨sv', wv', rfl, HR6, hb6⟩; have S6 := Lib.hid (S4.out.below hb6); have HB6 := Lib.hid (HB4.out.kept (hb6.block _ HB4.out.lt)))
    | (refine Dk.wpList_store30 rfl _ _ rfl w.heap.size rfl (r.lay x.i x.data) sv' wv' rfl _ S6.out.vars.m rfl HR6.out ?_; intro w7 hr7 hf7; have S7 := Lib.hid (S6.out.put HR6.out hr7 hf7); have HB7 := Lib.hid (HB6.out.kept (hf7.block _ HB6.out.lt (by have := hb1.size; have := hb2.size; have := hb3.size; have := hb4.size; omega))); have e1 := S7.out.vars.a.c1)
    | (go_at_call 16; have hc := write_keep (c := cap4) (n := x.data.length) (l := x.data) x.i rfl S7.out.live HB7.out.bts (fun k hq => (show k = g4 from hq) ▸ HB7.out.oth) HW.out HP.out.rel.bl; rw [HE.out.2] at hc; refine hc.mono ?_; rintro e w8 ⟨rfl, L8, K8⟩; have S8 := Lib.hid (S7.out.disk L8.out K8.out); have HB8 := Lib.hid (HB7.out.kept (K8.out _ HB7.out.oth)); clear hc))
  have hgs : w.heap.size ≠ g4 ∧ w1.heap.size ≠ g4 ∧ w2.heap.size ≠ g4 := by have := hb1.size; have := hb2.size; have := hb3.size; have := hb4.size; omega
  have hgw : w0.heap.size ≤ g4 ∧ w.heap.size ≤ g4 := by have := S3.out.h4; have := hb1.size; have := hb2.size; have := hb3.size; have := hb4.size; omega
  have HRm : Hid (Dk.Room w8 g4 x.data.length) := HB8.out.room
  clear HB4 HB6 HB7 HB8 q1
  go_loopw [12] (fun a wr => ∃ j : Nat, j ≤ x.data.length ∧ a = .int .i64 j ∧ Hid (Dk.St w0 w wr w.heap.size w1.heap.size w2.heap.size p (s.write x.i x.data) (r.lay x.i x.data) sv' wv' x Ad Ak cd ck) ∧ Hid (Dk.Room wr g4 x.data.length)) (fun a _ => x.data.length - (intOf a).toNat)
  case atStart => exact ⟨0, by omega, rfl, S8, HRm⟩
  case round =>
    obtain ⟨j, hj, rfl, Sj, Rj⟩ := hrel
    by_cases h1 : j < x.data.length
    · obtain ⟨z, hz⟩ := Rj.out.cell j h1
      have hf := Rj.out.free j
      have SN := Lib.hid (fun u => Sj.out.row Rj.out (Dk.Fr.setCell (F := (· = g4)) wr (p := ⟨g4, j, none⟩) rfl u) hgw hgs)
      have RN := Lib.hid (fun u => Rj.out.set j u)
      go_wp2
      go_roundw
      case rel => exact ⟨j + 1, by omega, by go_num, SN.out _, RN.out _⟩
      case measure => simp [intOf]; omega
    · skip
      go_wp2_with (fail)
      have HSd := Lib.hid Sj.out.drew
      refine wp_region_noPanic ?_
      refine wp_region_held_drew (S := fun w' => w'.rangeAt w.heap.size 0 (Dk.rc (r.lay x.i x.data) sv' wv')) (by kernel_rfl) (HSd.out.vars.m.range) (fun hHeld => ?_)
      refine wpAnyH_take (i := 0) (oi := ⟨some 130, _, _, _, _, _⟩) (v := ?_) rfl (by kernel_rfl) (by kernel_rfl) (by kernel_rfl) (fun _ _ _ h => h) (Or.inl ⟨by rfl, ?_⟩) (by assumption) ?_
      rotate_left
      · (intro w hSw; (try dsimp only at hSw); go_simp <;> with_reducible rfl)
      try simp only [Act.put]
      try simp only [List.setIfInBounds_toArray]
      try simp only [List.set_cons_succ]
      try simp only [List.set_cons_zero]
      refine wpAnyH_take (i := 1) (oi := ⟨some 131, _, _, _, _, _⟩) (v := Dk.rv (r.lay x.i x.data) sv' wv') rfl (by kernel_rfl) (by kernel_rfl) (by kernel_rfl) (fun _ _ _ h => h) (yieldsIf_load_mid (by rfl) 30 _ rfl w.heap.size 0 rfl (Dk.rc (r.lay x.i x.data) sv' wv') _ (fun _ h => h) Dk.u30 rfl Dk.i30) (by assumption) ?_
      try simp only [Act.put]
      try simp only [List.setIfInBounds_toArray]
      try simp only [List.set_cons_succ]
      try simp only [List.set_cons_zero]
      refine wpAnyH_take (i := 2) (oi := ⟨some 132, _, _, _, _, _⟩) (v := ?_) rfl (by kernel_rfl) (by kernel_rfl) (by kernel_rfl) (fun _ _ _ h => h) (Or.inl ⟨by rfl, ?_⟩) (by assumption) ?_
      rotate_left
      · (intro w hSw; (try dsimp only at hSw); go_simp <;> with_reducible rfl)
      try simp only [Act.put]
      try simp only [List.setIfInBounds_toArray]
      try simp only [List.set_cons_succ]
      try simp only [List.set_cons_zero]
      refine wpAnyH_take (i := 3) (oi := ⟨some 133, _, _, _, _, _⟩) (v := ?_) rfl (by kernel_rfl) (by kernel_rfl) (by kernel_rfl) (fun _ _ _ h => h) (Or.inl ⟨by rfl, ?_⟩) (by assumption) ?_
      rotate_left
      · (intro w hSw; (try dsimp only at hSw); go_simp <;> with_reducible rfl)
      try simp only [Act.put]
      try simp only [List.setIfInBounds_toArray]
      try simp only [List.set_cons_succ]
      try simp only [List.set_cons_zero]
      refine wpAnyH_take (i := 4) (oi := ⟨some 134, _, _, _, _, _⟩) (v := ?_) rfl (by kernel_rfl) (by kernel_rfl) (by kernel_rfl) (fun _ _ _ h => h) (Or.inl ⟨by rfl, ?_⟩) (by assumption) ?_
      rotate_left
      · (intro w hSw; (try dsimp only at hSw); go_simp <;> with_reducible rfl)
      try simp only [Act.put]
      try simp only [List.setIfInBounds_toArray]
      try simp only [List.set_cons_succ]
      try simp only [List.set_cons_zero]
      refine wpAnyH_take (i := 5) (oi := ⟨some 135, _, _, _, _, _⟩) (v := ?_) rfl (by kernel_rfl) (by kernel_rfl) (by kernel_rfl) (fun _ _ _ h => h) (Or.inl ⟨by rfl, ?_⟩) (by assumption) ?_
      rotate_left
      · (intro w hSw; (try dsimp only at hSw); go_simp <;> with_reducible rfl)
      try simp only [Act.put]
      try simp only [List.setIfInBounds_toArray]
      try simp only [List.set_cons_succ]
      try simp only [List.set_cons_zero]
      refine wpAnyH_take (i := 6) (oi := ⟨some 136, _, _, _, _, _⟩) (v := ?_) rfl (by kernel_rfl) (by kernel_rfl) (by kernel_rfl) (fun _ _ _ h => h) (Or.inl ⟨by rfl, ?_⟩) (by assumption) ?_
      rotate_left
      · (intro w hSw; (try dsimp only at hSw); go_simp <;> with_reducible rfl)
      try simp only [Act.put]
      try simp only [List.setIfInBounds_toArray]
      try simp only [List.set_cons_succ]
      try simp only [List.set_cons_zero]
      refine wpAnyH_take (i := 7) (oi := ⟨some 137, _, _, _, _, _⟩) (v := ?_) rfl (by kernel_rfl) (by kernel_rfl) (by kernel_rfl) (fun _ _ _ h => h) (Or.inl ⟨by rfl, ?_⟩) (by assumption) ?_
      rotate_left
      · (intro w hSw; (try dsimp only at hSw); go_simp <;> with_reducible rfl)
      try simp only [Act.put]
      try simp only [List.setIfInBounds_toArray]
      try simp only [List.set_cons_succ]
      try simp only [List.set_cons_zero]
      refine wpAnyH_take (i := 8) (oi := ⟨some 138, _, _, _, _, _⟩) (v := ?_) rfl (by kernel_rfl) (by kernel_rfl) (by kernel_rfl) (fun _ _ _ h => h) (Or.inl ⟨by rfl, ?_⟩) (by assumption) ?_
      rotate_left
      · (intro w hSw; (try dsimp only at hSw); go_simp <;> with_reducible rfl)
      try simp only [Act.put]
      try simp only [List.setIfInBounds_toArray]
      try simp only [List.set_cons_succ]
      try simp only [List.set_cons_zero]
      refine wpAnyH_take (i := 9) (oi := ⟨some 6, _, _, _, _, _⟩) (v := ?_) rfl (by kernel_rfl) (by kernel_rfl) (by kernel_rfl) (fun _ _ _ h => h) (Or.inl ⟨by rfl, ?_⟩) (by assumption) ?_
      rotate_left
      · (intro w hSw; (try dsimp only at hSw); go_simp <;> with_reducible rfl)
      try simp only [Act.put]
      try simp only [List.setIfInBounds_toArray]
      try simp only [List.set_cons_succ]
      try simp only [List.set_cons_zero]
      refine wpAnyH_ready (rs := [10]) (by kernel_rfl) (by simp) ?_
      refine AllReadyH.cons (o := ⟨none, _, _, _, _, _⟩) rfl (fun K hK => ?_) AllReadyH.nil
      rw [if_pos (by rfl)]
      obtain ⟨zs, hz6, hzb⟩ := HSd.out.vars.z
      refine Dk.wp_store30 _ _ rfl w2.heap.size rfl (r.lay x.i x.data) sv' wv' rfl zs hzb hz6 HSd.out.rr ?_
      intro w9 hr9 hf9
      have R9 := HSd.out.vars.m.kept (hf9.block _ HSd.out.vars.m.lt (Ne.symm HSd.out.ne.2))
      obtain ⟨E1, E2, E3⟩ := HSd.out.fin hf9
      refine hK.out _ _ ?_ (fun hHeld3 => ?_)
      · exact R9.range
      clear hK K
      try simp only [Act.put]
      try simp only [List.setIfInBounds_toArray]
      try simp only [List.set_cons_succ]
      try simp only [List.set_cons_zero]
      refine wpAnyH_take (i := 11) (oi := ⟨some 8, _, _, _, _, _⟩) (v := ?_) rfl (by kernel_rfl) (by kernel_rfl) (by kernel_rfl) (fun _ _ _ h => h) (Or.inl ⟨by rfl, ?_⟩) (by assumption) ?_
      rotate_left
      · (intro w hSw; (try dsimp only at hSw); go_simp <;> with_reducible rfl)
      try simp only [Act.put]
      try simp only [List.setIfInBounds_toArray]
      try simp only [List.set_cons_succ]
      try simp only [List.set_cons_zero]
      refine wpAnyH_done (by kernel_rfl) ?_ _
      refine NoPanic.normal ?_
      go_wp2_with (fail)
      refine bodyPost_ret (Dk.res3 rfl _ _ w2.heap.size (r.lay x.i x.data) sv' wv' rfl hr9) rfl ?_
      exact ⟨_, _, _, _, _, rfl, E1, E2, HE.out.1, E3, HN.out⟩
end Go.Proofs.Ytngpdjkeoodigaa
