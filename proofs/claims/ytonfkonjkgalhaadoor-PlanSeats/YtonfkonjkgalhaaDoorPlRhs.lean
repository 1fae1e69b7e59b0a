/- Contract of the document's Has. -/
import Derived.Test.YtonfkonjkgalhaaDoorPlRig
import Derived.Deep.RegionHeld3
namespace Go.Proofs.YtonfkonjkgalhaaDoor
open Go.RowKit Go.WideMaps
set_option linter.unusedVariables false

namespace Pl
theorem hasS_ix (p : P) (s : S) : hasS p s = (decide (0 ≤ ix (all p) s) && decide (ix p.bl s < 0)) := by
  have h1 := ix_neg (l := all p) (x := s)
  have h2 := ix_neg (l := p.bl) (x := s)
  rw [h2]
  unfold hasS
  congr 1
  have h3 : decide (0 ≤ ix (all p) s) = !decide (ix (all p) s < 0) := by
    by_cases h : ix (all p) s < 0
    · rw [decide_eq_true h, decide_eq_false (by omega)]; rfl
    · rw [decide_eq_false h, decide_eq_true (by omega)]; rfl
  rw [h3, h1, Bool.not_not]
end Pl
set_option maxHeartbeats 4000000 in
set_option maxRecDepth 20000 in
theorem rhas_any (r : Pl.R) (s : Pl.S) (B : Nat) (w : World) (hw : Pl.Wf r) (hbl : Pl.Sts w B r.bA r.p.bl) (hB : B ≤ w.heap.size) (ho : Pl.rowsOk r.p = true) (hl : Pl.lettersOk r.p.lt = true) :
    Calls Tryd.prog 24 #[Pl.pv r, Pl.sv s] w fun e w' => e = .returned (.bool (Pl.hasS r.p s)) ∧ Below w.heap.size w w' := by
  have HPL := Lib.hid (fun W => rplaces_any r W hw.s ho hl)
  have hln := Pl.all_len hl ho
  have HAT := Lib.hid (fun (A : Option Addr) (c : Nat) (W : World) (h : Pl.Sts W W.heap.size A (Pl.all r.p)) => at_any A (Pl.all r.p) c W.heap.size s W h (Nat.le_refl _) (by omega))
  have HAB := Lib.hid (fun (W : World) (hb : Below w.heap.size w W) => at_any r.bA r.p.bl r.bc B s W (hbl.below hb hB) (Nat.le_trans hB hb.size) hw.b)
  have HE := Lib.hid (Pl.hasS_ix r.p s)
  obtain ⟨s1, s2⟩ := s
  have e0 : Pl.pv r = .agg (Pl.enc r).toArray := rfl
  have e1 : Pl.sv (s1, s2) = .agg #[.int .i64 s1, .int .u8 s2] := rfl
  rw [e1] at HAT HAB ⊢
  unfold Pl.AtR at HAT HAB
  have HPL2 := HPL
  unfold Pl.pv at HPL2
  rw [e0]
  clear e0 e1 hln hbl hw ho hl
  generalize Pl.hasS r.p (s1, s2) = res at *
  generalize Pl.ix (Pl.all r.p) (s1, s2) = n1 at *
  generalize Pl.ix r.p.bl (s1, s2) = n2 at *
  go_enter Tryd.func24, Tryd.ntmps24
  go_wp2_with (first
    | (refine Rw.wpList_box rfl 32 _ rfl (Pl.enc r) rfl ?_; intro w1 K1 b1 z1; have HB1 := Lib.hid b1; have HK1 := Lib.hid K1; clear z1 K1 b1)
    | (refine Rw.wpList_box rfl 23 _ rfl [.int .i64 s1, .int .u8 s2] rfl ?_; intro w2 K2 b2 z2; have HB2 := Lib.hid (HB1.out.trans (b2.mono HB1.out.size)); have HK2 := Lib.hid K2; have HK12 := Lib.hid (HK1.out.below' b2); clear z2 K2 b2))
  have hz1 := HK12.out.lt
  have hz2 := HK2.out.lt
  have HC : Hid (∀ v : World, Below w2.heap.size w2 v → v.cell? ⟨w.heap.size, 0, none⟩ = some (.int .i64 r.p.fr) ∧ v.cell? ⟨w.heap.size, 1, none⟩ = some (.int .i64 r.p.la) ∧ v.cell? ⟨w.heap.size, 2, none⟩ = some (.string r.p.lt) ∧ v.cell? ⟨w.heap.size, 3, none⟩ = some (.slice r.eA r.p.ex.length r.ec) ∧ v.cell? ⟨w.heap.size, 4, none⟩ = some (.slice r.bA r.p.bl.length r.bc) ∧ v.cell? ⟨w1.heap.size, 0, none⟩ = some (.int .i64 s1) ∧ v.cell? ⟨w1.heap.size, 1, none⟩ = some (.int .u8 s2) ∧ Hid (Below w2.heap.size w2 v)) := fun v hb => by
    have k1 := HK12.out.below' hb
    have k2 := HK2.out.below' hb
    exact ⟨(k1.cell 0).trans rfl, (k1.cell 1).trans rfl, (k1.cell 2).trans rfl, (k1.cell 3).trans rfl, (k1.cell 4).trans rfl, (k2.cell 0).trans rfl, (k2.cell 1).trans rfl, hb⟩
  have HD : Hid (∀ v : World, (v.cell? ⟨w.heap.size, 0, none⟩ = some (.int .i64 r.p.fr) ∧ v.cell? ⟨w.heap.size, 1, none⟩ = some (.int .i64 r.p.la) ∧ v.cell? ⟨w.heap.size, 2, none⟩ = some (.string r.p.lt) ∧ v.cell? ⟨w.heap.size, 3, none⟩ = some (.slice r.eA r.p.ex.length r.ec) ∧ v.cell? ⟨w.heap.size, 4, none⟩ = some (.slice r.bA r.p.bl.length r.bc) ∧ v.cell? ⟨w1.heap.size, 0, none⟩ = some (.int .i64 s1) ∧ v.cell? ⟨w1.heap.size, 1, none⟩ = some (.int .u8 s2) ∧ Hid (Below w2.heap.size w2 v)) → Below w2.heap.size w2 v) := fun v h => h.2.2.2.2.2.2.2.out
  by_cases hn1 : 0 ≤ n1
  · have hd1 : decide (0 ≤ n1) = true := decide_eq_true hn1
    obtain ⟨q2, hq2⟩ : ∃ q, q = decide (n2 < 0) := ⟨_, rfl⟩
    have HN : Hid (res = q2) := show _ = _ by rw [HE.out, hd1, Bool.true_and, hq2]
    have hq2' := hq2.symm
    clear hq2
    go_region_held3 (fun v => v.cell? ⟨w.heap.size, 0, none⟩ = some (.int .i64 r.p.fr) ∧ v.cell? ⟨w.heap.size, 1, none⟩ = some (.int .i64 r.p.la) ∧ v.cell? ⟨w.heap.size, 2, none⟩ = some (.string r.p.lt) ∧ v.cell? ⟨w.heap.size, 3, none⟩ = some (.slice r.eA r.p.ex.length r.ec) ∧ v.cell? ⟨w.heap.size, 4, none⟩ = some (.slice r.bA r.p.bl.length r.bc) ∧ v.cell? ⟨w1.heap.size, 0, none⟩ = some (.int .i64 s1) ∧ v.cell? ⟨w1.heap.size, 1, none⟩ = some (.int .u8 s2) ∧ Hid (Below w2.heap.size w2 v)) (first | assumption | exact HC.out _ (Below.trans (HD.out _ (by assumption)) (Below.mono hbq (HD.out _ (by assumption)).size)) | exact HC.out _ (Below.refl _ _).drew) (first
      | (go_at_call 22; refine (HPL2.out _).mono ?_; rintro e w5 ⟨A5, c5, rfl, hO5, hbq⟩; obtain ⟨A6, c6, e6, _, hS5⟩ := hO5.sts; injection e6 with e6 _ e7; subst e6; subst e7; clear hO5)
      | (go_at_call 26; with_reducible refine (HAT.out _ _ _ hS5).mono ?_; rintro e w6 ⟨rfl, hbq⟩)
      | (go_at_call 26; with_reducible refine (HAB.out _ (HB2.out.trans ((HD.out _ (by assumption)).mono HB2.out.size))).mono ?_; rintro e w7 ⟨rfl, hbq⟩))
    all_goals go_wp2
    all_goals go_ret
    all_goals exact ⟨Pl.ret_bool HN.out.symm, HB2.out.trans ((HD.out _ (by assumption)).mono HB2.out.size)⟩
  · have hd1 : decide (0 ≤ n1) = false := decide_eq_false hn1
    have HN : Hid (res = false) := show _ = _ by rw [HE.out, hd1]; rfl
    have hn1' : n1 < 0 := by omega
    have hd1' : decide (n1 < 0) = true := decide_eq_true hn1'
    refine wp_region_noPanic ?_
    refine wp_region_held_drew (S := fun v => Below w2.heap.size w2 v) (by kernel_rfl) ((Below.refl _ _).drew) (fun hHeld => ?_)
    refine wpAnyH_take (i := 0) (oi := ⟨(some 5), _, _, _, _, _⟩) (v := ?_) rfl (by kernel_rfl) (by kernel_rfl) (by kernel_rfl) (fun _ _ _ h => h) (Or.inl ⟨by rfl, ?_⟩) (by assumption) ?_
    rotate_left
    · (intro w hSw; (try dsimp only at hSw); obtain ⟨c0, c1, c2, c3, c4, t0, t1, _⟩ := HC.out w hSw; go_simp <;> with_reducible rfl)
    try simp only [Act.put]
    try simp only [List.setIfInBounds_toArray]
    try simp only [List.set_cons_succ]
    try simp only [List.set_cons_zero]
    refine wpAnyH_take (i := 2) (oi := ⟨(some 7), _, _, _, _, _⟩) (v := ?_) rfl (by kernel_rfl) (by kernel_rfl) (by kernel_rfl) (fun _ _ _ h => h) (Or.inl ⟨by rfl, ?_⟩) (by assumption) ?_
    rotate_left
    · (intro w hSw; (try dsimp only at hSw); obtain ⟨c0, c1, c2, c3, c4, t0, t1, _⟩ := HC.out w hSw; go_simp <;> with_reducible rfl)
    try simp only [Act.put]
    try simp only [List.setIfInBounds_toArray]
    try simp only [List.set_cons_succ]
    try simp only [List.set_cons_zero]
    refine wpAnyH_ready (rs := [1]) (by kernel_rfl) (by simp) ?_
    refine AllReadyH.cons (o := ⟨(some 6), _, _, _, _, _⟩) rfl (fun K hK => ?_) (AllReadyH.nil)
    go_simp
    go_at_call 22
    refine (HPL2.out _).mono ?_
    rintro e w5 ⟨A5, c5, rfl, hO5, hbq⟩
    have hb5 : Below w2.heap.size w2 w5 := (Below.refl _ _).drew.trans hbq
    obtain ⟨A6, c6, e6, _, hS5⟩ := hO5.sts
    injection e6 with e6 _ e7
    subst e6
    subst e7
    clear hO5
    go_wp2_with fail
    refine hK.out _ _ ?_ (fun hHeld2 => ?_)
    · exact hb5
    clear hK K
    try simp only [Act.put]
    try simp only [List.setIfInBounds_toArray]
    try simp only [List.set_cons_succ]
    try simp only [List.set_cons_zero]
    refine wpAnyH_ready (rs := [3]) (by kernel_rfl) (by simp) ?_
    refine AllReadyH.cons (o := ⟨(some 8), _, _, _, _, _⟩) rfl (fun K hK => ?_) (AllReadyH.nil)
    go_simp
    go_at_call 26
    refine (HAT.out _ _ _ hS5).mono ?_
    rintro e w6 ⟨rfl, hb6⟩
    have hb56 : Below w2.heap.size w2 w6 := hb5.trans (hb6.mono hb5.size)
    go_wp2_with fail
    refine hK.out _ _ ?_ (fun hHeld2 => ?_)
    · exact hb56
    clear hK K
    try simp only [Act.put]
    try simp only [List.setIfInBounds_toArray]
    try simp only [List.set_cons_succ]
    try simp only [List.set_cons_zero]
    refine wpAnyH_take (i := 4) (oi := ⟨(some 9), _, _, _, _, _⟩) (v := ?_) rfl (by kernel_rfl) (by kernel_rfl) (by kernel_rfl) (fun _ _ _ h => h) (Or.inl ⟨by rfl, ?_⟩) (by assumption) ?_
    rotate_left
    · (intro w hSw; (try dsimp only at hSw); go_simp <;> with_reducible rfl)
    try simp only [Act.put]
    try simp only [List.setIfInBounds_toArray]
    try simp only [List.set_cons_succ]
    try simp only [List.set_cons_zero]
    refine wpAnyH_take (i := 5) (oi := ⟨(some 10), _, _, _, _, _⟩) (v := ?_) rfl (by kernel_rfl) (by kernel_rfl) (by kernel_rfl) (fun _ _ _ h => h) (Or.inl ⟨by rfl, ?_⟩) (by assumption) ?_
    rotate_left
    · (intro w hSw; (try dsimp only at hSw); go_simp <;> with_reducible rfl)
    try simp only [Act.put]
    try simp only [List.setIfInBounds_toArray]
    try simp only [List.set_cons_succ]
    try simp only [List.set_cons_zero]
    refine wpAnyH_take (i := 6) (oi := ⟨some 11, _, _, _, _, _⟩) (v := undef) rfl (by kernel_rfl) (by kernel_rfl) (by kernel_rfl) (fun _ _ _ h => h) (Or.inr ⟨by rfl, rfl⟩) (by assumption) ?_
    try simp only [Act.put]
    try simp only [List.setIfInBounds_toArray]
    try simp only [List.set_cons_succ]
    try simp only [List.set_cons_zero]
    refine wpAnyH_take (i := 7) (oi := ⟨some 12, _, _, _, _, _⟩) (v := undef) rfl (by kernel_rfl) (by kernel_rfl) (by kernel_rfl) (fun _ _ _ h => h) (Or.inr ⟨by rfl, rfl⟩) (by assumption) ?_
    try simp only [Act.put]
    try simp only [List.setIfInBounds_toArray]
    try simp only [List.set_cons_succ]
    try simp only [List.set_cons_zero]
    refine wpAnyH_take (i := 8) (oi := ⟨some 13, _, _, _, _, _⟩) (v := undef) rfl (by kernel_rfl) (by kernel_rfl) (by kernel_rfl) (fun _ _ _ h => h) (Or.inr ⟨by rfl, rfl⟩) (by assumption) ?_
    try simp only [Act.put]
    try simp only [List.setIfInBounds_toArray]
    try simp only [List.set_cons_succ]
    try simp only [List.set_cons_zero]
    refine wpAnyH_take (i := 9) (oi := ⟨some 14, _, _, _, _, _⟩) (v := undef) rfl (by kernel_rfl) (by kernel_rfl) (by kernel_rfl) (fun _ _ _ h => h) (Or.inr ⟨by rfl, rfl⟩) (by assumption) ?_
    try simp only [Act.put]
    try simp only [List.setIfInBounds_toArray]
    try simp only [List.set_cons_succ]
    try simp only [List.set_cons_zero]
    refine wpAnyH_take (i := 10) (oi := ⟨some 15, _, _, _, _, _⟩) (v := undef) rfl (by kernel_rfl) (by kernel_rfl) (by kernel_rfl) (fun _ _ _ h => h) (Or.inr ⟨by rfl, rfl⟩) (by assumption) ?_
    try simp only [Act.put]
    try simp only [List.setIfInBounds_toArray]
    try simp only [List.set_cons_succ]
    try simp only [List.set_cons_zero]
    refine wpAnyH_take (i := 11) (oi := ⟨(some 16), _, _, _, _, _⟩) (v := ?_) rfl (by kernel_rfl) (by kernel_rfl) (by kernel_rfl) (fun _ _ _ h => h) (Or.inl ⟨by rfl, ?_⟩) (by assumption) ?_
    rotate_left
    · (intro w hSw; (try dsimp only at hSw); go_simp <;> with_reducible rfl)
    try simp only [Act.put]
    try simp only [List.setIfInBounds_toArray]
    try simp only [List.set_cons_succ]
    try simp only [List.set_cons_zero]
    refine wpAnyH_take (i := 12) (oi := ⟨(some 4), _, _, _, _, _⟩) (v := ?_) rfl (by kernel_rfl) (by kernel_rfl) (by kernel_rfl) (fun _ _ _ h => h) (Or.inl ⟨by rfl, ?_⟩) (by assumption) ?_
    rotate_left
    · (intro w hSw; (try dsimp only at hSw); go_simp <;> with_reducible rfl)
    try simp only [Act.put]
    try simp only [List.setIfInBounds_toArray]
    try simp only [List.set_cons_succ]
    try simp only [List.set_cons_zero]
    refine wpAnyH_done (by kernel_rfl) ?_ _
    refine NoPanic.normal ?_
    go_wp2
    go_ret
    exact ⟨Pl.ret_bool HN.out.symm, HB2.out.trans (hb56.mono HB2.out.size)⟩
end Go.Proofs.YtonfkonjkgalhaaDoor
