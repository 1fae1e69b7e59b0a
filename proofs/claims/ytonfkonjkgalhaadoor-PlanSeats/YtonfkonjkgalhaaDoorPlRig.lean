/- Contract of the document's Right. -/
import Derived.Test.YtonfkonjkgalhaaDoorPlPla
namespace Go.Proofs.YtonfkonjkgalhaaDoor
open Go.RowKit Go.WideMaps
set_option linter.unusedVariables false

namespace Pl
theorem place_all {p : P} (hl : lettersOk p.lt = true) (s : S) : place p s = decide (s ∈ all p) := by
  rw [Bool.eq_iff_iff, decide_eq_true_iff, mem_all]
  unfold place
  rw [Bool.and_eq_true, Bool.and_eq_true]
  unfold hasB lets
  rw [List.contains_iff_mem, List.mem_filter]
  constructor
  · rintro ⟨⟨h1, h2⟩, h3⟩
    refine ⟨h1, h3, ?_⟩
    simp [Cd.isL] at h2
    rw [decide_eq_true_iff]
    omega
  · rintro ⟨h1, h2, h3⟩
    exact ⟨⟨h1, (lets_ok hl).2.1 _ (List.mem_filter.2 ⟨h2, h3⟩)⟩, h2⟩
theorem ix_mem {p : P} {s : S} : s ∈ all p ↔ -1 < ix (all p) s := by
  unfold ix
  by_cases h : s ∈ all p
  · rw [if_pos h]; exact ⟨fun _ => by omega, fun _ => h⟩
  · rw [if_neg h]; exact ⟨fun h' => absurd h' h, fun h' => by omega⟩
theorem ix_at {p : P} (hl : lettersOk p.lt = true) {a : Nat} (h : a < (all p).length) : ix (all p) (all p)[a] = a := by
  unfold ix
  rw [if_pos (List.getElem_mem h), idxOf_at h (all_nodup hl)]
theorem lss_ix {p : P} (hl : lettersOk p.lt = true) {s t : S} (hs : s ∈ all p) (ht : t ∈ all p) : lss s t = decide (ix (all p) s < ix (all p) t) := by
  obtain ⟨a, ha, rfl⟩ := List.getElem_of_mem hs
  obtain ⟨b, hb, rfl⟩ := List.getElem_of_mem ht
  rw [ix_at hl ha, ix_at hl hb]
  have hp := List.pairwise_iff_getElem.1 (all_rise hl)
  rcases Nat.lt_trichotomy a b with h | h | h
  · rw [hp a b ha hb h, decide_eq_true (by omega)]
  · subst h
    rw [decide_eq_false (by omega)]
    rw [Bool.eq_false_iff]
    exact fun h => lss_ne h rfl
  · rw [decide_eq_false (by omega), Bool.eq_false_iff]
    intro h1
    have h2 := lss_lt.1 (hp b a hb ha h)
    have h3 := lss_lt.1 h1
    omega
def lastN (p : P) (k : Nat) : Int := if k = 0 then -1 else ix (all p) (gR p.bl (k - 1), gC p.bl (k - 1))
theorem bl_step {p : P} (hl : lettersOk p.lt = true) {k : Nat} (hk : ∀ j, j < k → blOk p j = true) : blOk p k = decide (lastN p k < ix (all p) (gR p.bl k, gC p.bl k)) := by
  unfold blOk lastN
  rw [place_all hl]
  by_cases h0 : k = 0
  · rw [if_pos h0, decide_eq_true h0, Bool.true_or, Bool.and_true, Bool.eq_iff_iff, decide_eq_true_iff, decide_eq_true_iff]
    exact ix_mem
  · rw [if_neg h0, decide_eq_false h0, Bool.false_or]
    have h1 := hk (k - 1) (by omega)
    unfold blOk at h1
    rw [Bool.and_eq_true, place_all hl, decide_eq_true_iff] at h1
    by_cases h2 : (gR p.bl k, gC p.bl k) ∈ all p
    · rw [lss_ix hl h1.1 h2, decide_eq_true h2, Bool.true_and]
    · have h3 := mt ix_mem.2 h2
      have h4 := ix_mem.1 h1.1
      rw [decide_eq_false h2, Bool.false_and, decide_eq_false (by omega)]
theorem right_rows {p : P} (h : rowsOk p = false) : right p = false := by unfold right; rw [h]; rfl
theorem right_lets {p : P} (h : lettersOk p.lt = false) : right p = false := by unfold right; rw [h, Bool.and_false]; rfl
theorem right_exits {p : P} (h : exitsOk p = false) : right p = false := by unfold right; rw [h, Bool.and_false]; rfl
theorem right_bl {p : P} (h : blockedOk p = false) : right p = false := by unfold right; rw [h, Bool.and_false]
theorem right_yes {p : P} (h1 : rowsOk p = true) (h2 : lettersOk p.lt = true) (h3 : exitsOk p = true) (h4 : blockedOk p = true) : right p = true := by unfold right; rw [h1, h2, h3, h4]; rfl
end Pl
set_option maxHeartbeats 4000000 in
set_option maxRecDepth 20000 in
theorem rright_any (r : Pl.R) (B : Nat) (w : World) (hw : Pl.Wf r) (he : Pl.Ints w B r.eA r.p.ex) (hbl : Pl.Sts w B r.bA r.p.bl) (hB : B ≤ w.heap.size) :
    Calls Tryd.prog 15 #[Pl.pv r] w fun e w' => e = .returned (.bool (Pl.right r.p)) ∧ Below w.heap.size w w' := by
  have hs := hw.s
  have hel := hw.e
  have hbl2 := hw.b
  have HLT := Lib.hid (fun W => rletters_any r.p.lt W hs)
  have e0 : Pl.pv r = .agg (Pl.enc r).toArray := rfl
  by_cases hl : Pl.lettersOk r.p.lt = true
  case neg =>
    have hl' : Pl.lettersOk r.p.lt = false := by simpa using hl
    rw [hl'] at HLT
    rw [e0]
    clear e0 he hbl
    have HN : Hid (Pl.right r.p = false) := show _ = _ by exact Pl.right_lets hl'
    generalize Pl.right r.p = res at *
    go_enter Tryd.func15, Tryd.ntmps15
    go_wp2_with (first
      | (refine Rw.wpList_box rfl 32 _ rfl (Pl.enc r) rfl ?_; intro w1 K1 b1 z1; have HB1 := Lib.hid b1; have HK1 := Lib.hid K1; have q2 : w1.cell? ⟨w.heap.size, 2, none⟩ = some (.string r.p.lt) := (HK1.out.cell 2).trans rfl; clear z1 K1 b1)
      | (go_at_call 39; refine (HLT.out _).mono ?_; rintro e w2 ⟨l, rfl, hbl2, hb2⟩; have HB2 := Lib.hid (HB1.out.trans (hb2.mono HB1.out.size)); have HK2 := Lib.hid (HK1.out.below' hb2); clear hb2 hbl2; have q0 : w2.cell? ⟨w.heap.size, 0, none⟩ = some (.int .i64 r.p.fr) := (HK2.out.cell 0).trans rfl; have q1 : w2.cell? ⟨w.heap.size, 1, none⟩ = some (.int .i64 r.p.la) := (HK2.out.cell 1).trans rfl; have q4 : w2.cell? ⟨w.heap.size, 4, none⟩ = some (.slice r.bA r.p.bl.length r.bc) := (HK2.out.cell 4).trans rfl))
    go_ret
    exact ⟨Pl.ret_bool HN.out.symm, HB2.out⟩
  rw [hl] at HLT
  by_cases h1 : r.p.fr < 1
  case pos =>
    rw [e0]
    clear e0 he hbl
    have HN : Hid (Pl.right r.p = false) := show _ = _ by exact Pl.right_rows (by unfold Pl.rowsOk; simp; omega)
    generalize Pl.right r.p = res at *
    go_enter Tryd.func15, Tryd.ntmps15
    go_wp2_with (first
      | (refine Rw.wpList_box rfl 32 _ rfl (Pl.enc r) rfl ?_; intro w1 K1 b1 z1; have HB1 := Lib.hid b1; have HK1 := Lib.hid K1; have q2 : w1.cell? ⟨w.heap.size, 2, none⟩ = some (.string r.p.lt) := (HK1.out.cell 2).trans rfl; clear z1 K1 b1)
      | (go_at_call 39; refine (HLT.out _).mono ?_; rintro e w2 ⟨l, rfl, hbl2, hb2⟩; have HB2 := Lib.hid (HB1.out.trans (hb2.mono HB1.out.size)); have HK2 := Lib.hid (HK1.out.below' hb2); clear hb2 hbl2; have q0 : w2.cell? ⟨w.heap.size, 0, none⟩ = some (.int .i64 r.p.fr) := (HK2.out.cell 0).trans rfl; have q1 : w2.cell? ⟨w.heap.size, 1, none⟩ = some (.int .i64 r.p.la) := (HK2.out.cell 1).trans rfl; have q4 : w2.cell? ⟨w.heap.size, 4, none⟩ = some (.slice r.bA r.p.bl.length r.bc) := (HK2.out.cell 4).trans rfl))
    go_ret
    exact ⟨Pl.ret_bool HN.out.symm, HB2.out⟩
  by_cases h2 : r.p.la < r.p.fr
  case pos =>
    rw [e0]
    clear e0 he hbl
    have HN : Hid (Pl.right r.p = false) := show _ = _ by exact Pl.right_rows (by unfold Pl.rowsOk; simp; omega)
    generalize Pl.right r.p = res at *
    go_enter Tryd.func15, Tryd.ntmps15
    go_wp2_with (first
      | (refine Rw.wpList_box rfl 32 _ rfl (Pl.enc r) rfl ?_; intro w1 K1 b1 z1; have HB1 := Lib.hid b1; have HK1 := Lib.hid K1; have q2 : w1.cell? ⟨w.heap.size, 2, none⟩ = some (.string r.p.lt) := (HK1.out.cell 2).trans rfl; clear z1 K1 b1)
      | (go_at_call 39; refine (HLT.out _).mono ?_; rintro e w2 ⟨l, rfl, hbl2, hb2⟩; have HB2 := Lib.hid (HB1.out.trans (hb2.mono HB1.out.size)); have HK2 := Lib.hid (HK1.out.below' hb2); clear hb2 hbl2; have q0 : w2.cell? ⟨w.heap.size, 0, none⟩ = some (.int .i64 r.p.fr) := (HK2.out.cell 0).trans rfl; have q1 : w2.cell? ⟨w.heap.size, 1, none⟩ = some (.int .i64 r.p.la) := (HK2.out.cell 1).trans rfl; have q4 : w2.cell? ⟨w.heap.size, 4, none⟩ = some (.slice r.bA r.p.bl.length r.bc) := (HK2.out.cell 4).trans rfl))
    go_ret
    exact ⟨Pl.ret_bool HN.out.symm, HB2.out⟩
  by_cases h3 : 60 < r.p.la
  case pos =>
    rw [e0]
    clear e0 he hbl
    have HN : Hid (Pl.right r.p = false) := show _ = _ by exact Pl.right_rows (by unfold Pl.rowsOk; simp; omega)
    generalize Pl.right r.p = res at *
    go_enter Tryd.func15, Tryd.ntmps15
    go_wp2_with (first
      | (refine Rw.wpList_box rfl 32 _ rfl (Pl.enc r) rfl ?_; intro w1 K1 b1 z1; have HB1 := Lib.hid b1; have HK1 := Lib.hid K1; have q2 : w1.cell? ⟨w.heap.size, 2, none⟩ = some (.string r.p.lt) := (HK1.out.cell 2).trans rfl; clear z1 K1 b1)
      | (go_at_call 39; refine (HLT.out _).mono ?_; rintro e w2 ⟨l, rfl, hbl2, hb2⟩; have HB2 := Lib.hid (HB1.out.trans (hb2.mono HB1.out.size)); have HK2 := Lib.hid (HK1.out.below' hb2); clear hb2 hbl2; have q0 : w2.cell? ⟨w.heap.size, 0, none⟩ = some (.int .i64 r.p.fr) := (HK2.out.cell 0).trans rfl; have q1 : w2.cell? ⟨w.heap.size, 1, none⟩ = some (.int .i64 r.p.la) := (HK2.out.cell 1).trans rfl; have q4 : w2.cell? ⟨w.heap.size, 4, none⟩ = some (.slice r.bA r.p.bl.length r.bc) := (HK2.out.cell 4).trans rfl))
    go_ret
    exact ⟨Pl.ret_bool HN.out.symm, HB2.out⟩
  by_cases h4 : 40 < r.p.bl.length
  case pos =>
    have h4i : (40 : Int) < (r.p.bl.length : Int) := by omega
    rw [e0]
    clear e0 he hbl
    have HN : Hid (Pl.right r.p = false) := show _ = _ by exact Pl.right_bl (by unfold Pl.blockedOk; rw [decide_eq_false (by omega)]; rfl)
    generalize Pl.right r.p = res at *
    go_enter Tryd.func15, Tryd.ntmps15
    go_wp2_with (first
      | (refine Rw.wpList_box rfl 32 _ rfl (Pl.enc r) rfl ?_; intro w1 K1 b1 z1; have HB1 := Lib.hid b1; have HK1 := Lib.hid K1; have q2 : w1.cell? ⟨w.heap.size, 2, none⟩ = some (.string r.p.lt) := (HK1.out.cell 2).trans rfl; clear z1 K1 b1)
      | (go_at_call 39; refine (HLT.out _).mono ?_; rintro e w2 ⟨l, rfl, hbl2, hb2⟩; have HB2 := Lib.hid (HB1.out.trans (hb2.mono HB1.out.size)); have HK2 := Lib.hid (HK1.out.below' hb2); clear hb2 hbl2; have q0 : w2.cell? ⟨w.heap.size, 0, none⟩ = some (.int .i64 r.p.fr) := (HK2.out.cell 0).trans rfl; have q1 : w2.cell? ⟨w.heap.size, 1, none⟩ = some (.int .i64 r.p.la) := (HK2.out.cell 1).trans rfl; have q4 : w2.cell? ⟨w.heap.size, 4, none⟩ = some (.slice r.bA r.p.bl.length r.bc) := (HK2.out.cell 4).trans rfl))
    go_ret
    exact ⟨Pl.ret_bool HN.out.symm, HB2.out⟩
  have ho : Pl.rowsOk r.p = true := by unfold Pl.rowsOk; simp; omega
  have h4i : ¬ (40 : Int) < (r.p.bl.length : Int) := by omega
  have HPL := Lib.hid (fun W => rplaces_any r W hs ho hl)
  have HLN : Hid ((Pl.all r.p).length ≤ 600) := Pl.all_len hl ho
  have HEY : Hid ((∀ j, j < r.p.ex.length → Pl.exOk r.p j = true) → Pl.exitsOk r.p = true) := fun hk => Pl.range_yes hk
  have HEN : Hid (∀ k, k < r.p.ex.length → Pl.exOk r.p k = false → Pl.right r.p = false) := fun k h h' => Pl.right_exits (Pl.range_no h h')
  have HBY : Hid (Pl.exitsOk r.p = true → (∀ j, j < r.p.bl.length → Pl.blOk r.p j = true) → Pl.right r.p = true) := fun h hk => Pl.right_yes ho hl h (by unfold Pl.blockedOk; rw [Pl.range_yes hk, decide_eq_true (by omega)]; rfl)
  have HBN : Hid (∀ k, k < r.p.bl.length → Pl.blOk r.p k = false → Pl.right r.p = false) := fun k h h' => Pl.right_bl (by unfold Pl.blockedOk; rw [Pl.range_no h h', Bool.and_false])
  have HBS : Hid (∀ k, (∀ j, j < k → Pl.blOk r.p j = true) → Pl.blOk r.p k = decide (Pl.lastN r.p k < Pl.ix (Pl.all r.p) (Pl.gR r.p.bl k, Pl.gC r.p.bl k))) := fun k hk => Pl.bl_step hl hk
  have HBL0 : Hid (Pl.lastN r.p 0 = -1) := show _ = _ by rfl
  have HBLS : Hid (∀ k, Pl.lastN r.p (k + 1) = Pl.ix (Pl.all r.p) (Pl.gR r.p.bl k, Pl.gC r.p.bl k)) := fun k => rfl
  have HXO : Hid (∀ k, Pl.exOk r.p k = (Pl.inRow r.p (Pl.gI r.p.ex k) && (decide (k = 0) || decide (Pl.gI r.p.ex (k - 1) < Pl.gI r.p.ex k)))) := fun _ => rfl
  have HIR : Hid (∀ n, Pl.inRow r.p n = (decide (r.p.fr ≤ n) && decide (n ≤ r.p.la))) := fun _ => rfl
  have HE := Lib.hid he
  have HS := Lib.hid hbl
  rw [e0] at HPL ⊢
  clear e0 hl ho he hbl hw
  generalize Pl.right r.p = res at *
  generalize Pl.lastN r.p = lastF at *
  generalize Pl.exitsOk r.p = exq at *
  generalize Pl.exOk r.p = exk at *
  generalize Pl.blOk r.p = blk at *
  go_enter Tryd.func15, Tryd.ntmps15
  go_wp2_with (first
    | (refine Rw.wpList_box rfl 32 _ rfl (Pl.enc r) rfl ?_; intro w1 K1 b1 z1; have HB1 := Lib.hid b1; have HK1 := Lib.hid K1; have q2 : w1.cell? ⟨w.heap.size, 2, none⟩ = some (.string r.p.lt) := (HK1.out.cell 2).trans rfl; clear z1 K1 b1)
    | (go_at_call 39; refine (HLT.out _).mono ?_; rintro e w2 ⟨l, rfl, hbl3, hb2⟩; have HB2 := Lib.hid (HB1.out.trans (hb2.mono HB1.out.size)); have HK2 := Lib.hid (HK1.out.below' hb2); clear hb2 hbl3; have q0 : w2.cell? ⟨w.heap.size, 0, none⟩ = some (.int .i64 r.p.fr) := (HK2.out.cell 0).trans rfl; have q1 : w2.cell? ⟨w.heap.size, 1, none⟩ = some (.int .i64 r.p.la) := (HK2.out.cell 1).trans rfl; have q4 : w2.cell? ⟨w.heap.size, 4, none⟩ = some (.slice r.bA r.p.bl.length r.bc) := (HK2.out.cell 4).trans rfl))
  clear q0 q1 q2 q4 HLT h4i
  have hz2 := HK2.out.lt
  have h02 : w.heap.size ≤ w2.heap.size := by omega
  go_loopw [5] (fun i wr => ∃ k : Nat, k ≤ r.p.ex.length ∧ i = .int .i64 k ∧ Hid (∀ j, j < k → exk j = true) ∧ Hid (Below w2.heap.size w2 wr)) (fun i _ => r.p.ex.length - (intOf i).toNat)
  case atStart => exact ⟨0, by omega, rfl, fun j hj => absurd hj (by omega), Below.refl _ _⟩
  case round =>
    obtain ⟨wa, ea⟩ : ∃ x, x = wr := ⟨_, rfl⟩
    subst ea
    obtain ⟨k, hk, rfl, HK, HBa⟩ := hrel
    have HKa : Hid (Rw.Blk wa w.heap.size 32 (Pl.enc r)) := HK2.out.kept (HBa.out.block _ hz2)
    have HBw : Hid (Below w.heap.size w wa) := HB2.out.trans (HBa.out.mono h02)
    by_cases hlt : k < r.p.ex.length
    · obtain ⟨b, off, eA, hb, hc⟩ := HE.out (by omega)
      have c0 : ∀ q, (wa.drewN q).cell? ⟨b, off + k, none⟩ = some (.int .i64 (Pl.gI r.p.ex k)) := fun q => (HBw.out.cell (p := ⟨b, off + k, none⟩) (by show b < _; omega)).trans (hc k hlt)
      have q0 : ∀ q, (wa.drewN q).cell? ⟨w.heap.size, 0, none⟩ = some (.int .i64 r.p.fr) := fun q => (HKa.out.cell 0).trans rfl
      have q1 : ∀ q, (wa.drewN q).cell? ⟨w.heap.size, 1, none⟩ = some (.int .i64 r.p.la) := fun q => (HKa.out.cell 1).trans rfl
      have q3 : ∀ q, (wa.drewN q).cell? ⟨w.heap.size, 3, none⟩ = some (.slice (some ⟨b, off, none⟩) r.p.ex.length r.ec) := fun q => by rw [← eA]; exact (HKa.out.cell 3).trans rfl
      have q30 : wa.cell? ⟨w.heap.size, 3, none⟩ = some (.slice (some ⟨b, off, none⟩) r.p.ex.length r.ec) := q3 0
      have HEk := Lib.hid (HEN.out k hlt)
      have hon := HXO.out k
      rw [HIR.out] at hon
      by_cases x1 : Pl.gI r.p.ex k < r.p.fr
      · have HN := Lib.hid (HEk.out (by rw [hon, decide_eq_false (p := r.p.fr ≤ _) (by omega)]; rfl))
        have hd : decide (Pl.gI r.p.ex k < r.p.fr) = true := decide_eq_true x1
        clear hon hc
        generalize Pl.gI r.p.ex k = x at *
        go_wp2
        go_quiet (fail)
        go_wp2
        go_ret
        exact ⟨Pl.ret_bool HN.out.symm, Pl.below_drewN HBw.out _⟩
      · by_cases x2 : r.p.la < Pl.gI r.p.ex k
        · have HN := Lib.hid (HEk.out (by rw [hon, decide_eq_false (p := _ ≤ r.p.la) (by omega), Bool.and_false]; rfl))
          have hd : decide (Pl.gI r.p.ex k < r.p.fr) = false := decide_eq_false x1
          have hd2 : decide (r.p.la < Pl.gI r.p.ex k) = true := decide_eq_true x2
          clear hon hc
          generalize Pl.gI r.p.ex k = x at *
          go_wp2
          go_quiet (fail)
          go_wp2
          go_ret
          exact ⟨Pl.ret_bool HN.out.symm, Pl.below_drewN HBw.out _⟩
        · have hd : decide (Pl.gI r.p.ex k < r.p.fr) = false := decide_eq_false x1
          have hd2 : decide (r.p.la < Pl.gI r.p.ex k) = false := decide_eq_false x2
          rw [decide_eq_true (p := r.p.fr ≤ _) (by omega), decide_eq_true (p := _ ≤ r.p.la) (by omega)] at hon
          by_cases h0 : k = 0
          · have HN : Hid (∀ j, j < k + 1 → exk j = true) := fun j hj => by
              rw [show j = k by omega, hon, decide_eq_true h0]; rfl
            have hd3 : decide ((0 : Int) < (k : Int)) = false := decide_eq_false (by omega)
            have hd4 : decide (0 < k) = false := decide_eq_false (by omega)
            clear hon hc h0
            generalize Pl.gI r.p.ex k = x at *
            go_wp2
            go_quiet (fail)
            go_wp2
            go_roundw
            case rel => exact ⟨k + 1, by omega, by go_num, HN, Pl.below_drewN HBa.out _⟩
            case measure => simp [intOf]; omega
          · rw [decide_eq_false h0] at hon
            obtain ⟨m, hm⟩ : ∃ m, k - 1 = m := ⟨_, rfl⟩
            rw [hm] at hon
            have hm2 : m < r.p.ex.length := by omega
            have cm : ∀ q, (wa.drewN q).cell? ⟨b, off + m, none⟩ = some (.int .i64 (Pl.gI r.p.ex m)) := fun q => (HBw.out.cell (p := ⟨b, off + m, none⟩) (by show b < _; omega)).trans (hc m hm2)
            have hw1 : (k : Int) - 1 = (m : Int) := by omega
            have hw2 : IntKind.i64.wrap (m : Int) = (m : Int) := IntWalk.i64_in _ (by omega)
            have hd3 : decide ((0 : Int) < (k : Int)) = true := decide_eq_true (by omega)
            have hd4 : decide (0 < k) = true := decide_eq_true (by omega)
            have hkp : 0 < k := by omega
            by_cases h5 : Pl.gI r.p.ex m < Pl.gI r.p.ex k
            · have HN : Hid (∀ j, j < k + 1 → exk j = true) := fun j hj => by
                rcases Nat.lt_or_ge j k with hj' | hj'
                · exact HK.out j hj'
                · rw [show j = k by omega, hon, decide_eq_true h5]; rfl
              have hd5 : decide (Pl.gI r.p.ex k ≤ Pl.gI r.p.ex m) = false := decide_eq_false (by omega)
              clear hon hc
              generalize Pl.gI r.p.ex k = x at *
              generalize Pl.gI r.p.ex m = y at *
              go_wp2
              go_quiet (fail)
              go_wp2
              go_roundw
              case rel => exact ⟨k + 1, by omega, by go_num, HN, Pl.below_drewN HBa.out _⟩
              case measure => simp [intOf]; omega
            · have HN := Lib.hid (HEk.out (by rw [hon, decide_eq_false h5]; rfl))
              have hd5 : decide (Pl.gI r.p.ex k ≤ Pl.gI r.p.ex m) = true := decide_eq_true (by omega)
              clear hon hc
              generalize Pl.gI r.p.ex k = x at *
              generalize Pl.gI r.p.ex m = y at *
              go_wp2
              go_quiet (fail)
              go_wp2
              go_ret
              exact ⟨Pl.ret_bool HN.out.symm, Pl.below_drewN HBw.out _⟩
    · have HX := Lib.hid (HEY.out (fun j hj => HK.out j (by omega)))
      have q3 : wa.cell? ⟨w.heap.size, 3, none⟩ = some (.slice r.eA r.p.ex.length r.ec) := (HKa.out.cell 3).trans rfl
      go_wp2_with (first
        | (refine wpList_load_mid rfl 32 _ rfl w.heap.size 0 rfl (Pl.enc r) _ HKa.out.range Pl.uP Pl.rP Pl.iP ?_)
        | (go_at_call 22; refine (HPL.out wa).mono ?_; rintro e w5 ⟨A5, c5, rfl, hO5, hb5⟩; obtain ⟨A6, c6, e6, _, hS5⟩ := hO5.sts; have HS5 := Lib.hid hS5; have HB5 := Lib.hid (HBw.out.trans (hb5.mono HBw.out.size)); have HK5 := Lib.hid (HKa.out.below' hb5); injection e6 with e6 _ e7; subst e6; subst e7; clear hO5 hb5 hS5))
      clear q3
      go_loopw [7, 8] (fun ln i wr => ∃ k : Nat, k ≤ r.p.bl.length ∧ i = .int .i64 k ∧ ln = .int .i64 (lastF k) ∧ Hid (∀ j, j < k → blk j = true) ∧ Hid (Below w5.heap.size w5 wr)) (fun _ i _ => r.p.bl.length - (intOf i).toNat)
      case atStart => exact ⟨0, by omega, rfl, by rw [HBL0.out], fun j hj => absurd hj (by omega), Below.refl _ _⟩
      case round =>
        obtain ⟨wb, eb⟩ : ∃ x, x = wr := ⟨_, rfl⟩
        subst eb
        obtain ⟨k2, hk2, rfl, rfl, HK2b, HBb⟩ := hrel
        have HBv : Hid (Below w.heap.size w wb) := HB5.out.trans (HBb.out.mono HB5.out.size)
        have HKb := Lib.hid (HK5.out.below' HBb.out)
        by_cases hlt2 : k2 < r.p.bl.length
        · obtain ⟨b, off, eA, hb, hc⟩ := HS.out (by omega)
          have c0 : wb.cell? ⟨b, off + k2 * 2, none⟩ = some (.int .i64 (Pl.gR r.p.bl k2)) := (HBv.out.cell (p := ⟨b, off + k2 * 2, none⟩) (by show b < _; omega)).trans (hc k2 hlt2).1
          have c1 : wb.cell? ⟨b, off + k2 * 2 + 1, none⟩ = some (.int .u8 (Pl.gC r.p.bl k2)) := (HBv.out.cell (p := ⟨b, off + k2 * 2 + 1, none⟩) (by show b < _; omega)).trans (hc k2 hlt2).2
          have q4 : wb.cell? ⟨w.heap.size, 4, none⟩ = some (.slice (some ⟨b, off, none⟩) r.p.bl.length r.bc) := by rw [← eA]; exact (HKb.out.cell 4).trans rfl
          have HAT := Lib.hid (at_any A5 (Pl.all r.p) c5 w5.heap.size (Pl.gR r.p.bl k2, Pl.gC r.p.bl k2) wb (HS5.out.below HBb.out (Nat.le_refl _)) HBb.out.size (by have := HLN.out; omega))
          have e1 : Pl.sv (Pl.gR r.p.bl k2, Pl.gC r.p.bl k2) = .agg #[.int .i64 (Pl.gR r.p.bl k2), .int .u8 (Pl.gC r.p.bl k2)] := rfl
          rw [e1] at HAT
          unfold Pl.AtR at HAT
          have hst := HBS.out k2 HK2b.out
          have HLS := Lib.hid (HBLS.out k2)
          have HBk := Lib.hid (HBN.out k2 hlt2)
          clear e1 hc eA
          generalize Pl.ix (Pl.all r.p) (Pl.gR r.p.bl k2, Pl.gC r.p.bl k2) = n at *
          generalize Pl.gR r.p.bl k2 = sr at *
          generalize Pl.gC r.p.bl k2 = sc at *
          obtain ⟨ln, hln⟩ : ∃ x, x = lastF k2 := ⟨_, rfl⟩
          rw [← hln] at hst ⊢
          clear hln
          by_cases hnl : ln < n
          · have HN : Hid (∀ j, j < k2 + 1 → blk j = true) := fun j hj => by
              rcases Nat.lt_or_ge j k2 with hj' | hj'
              · exact HK2b.out j hj'
              · rw [show j = k2 by omega, hst, decide_eq_true hnl]
            have hd : decide (n ≤ ln) = false := decide_eq_false (by omega)
            clear hst
            go_wp2_with (first
              | (go_at_call 26; refine HAT.out.mono ?_; rintro e w6 ⟨rfl, hb6⟩; have HB6 := Lib.hid (HBb.out.trans (hb6.mono HBb.out.size)); clear hb6))
            go_roundw
            case rel => exact ⟨k2 + 1, by omega, by go_num, by rw [HLS.out], HN, HB6⟩
            case measure => simp [intOf]; omega
          · have HN := Lib.hid (HBk.out (by rw [hst, decide_eq_false hnl]))
            have hd : decide (n ≤ ln) = true := decide_eq_true (by omega)
            clear hst
            go_wp2_with (first
              | (go_at_call 26; refine HAT.out.mono ?_; rintro e w6 ⟨rfl, hb6⟩; have HB6 := Lib.hid (HBv.out.trans (hb6.mono HBv.out.size)); clear hb6))
            go_ret
            exact ⟨Pl.ret_bool HN.out.symm, HB6.out⟩
        · have HN := Lib.hid (HBY.out HX.out (fun j hj => HK2b.out j (by omega)))
          have q4 : wb.cell? ⟨w.heap.size, 4, none⟩ = some (.slice r.bA r.p.bl.length r.bc) := (HKb.out.cell 4).trans rfl
          go_wp2
          go_ret
          exact ⟨Pl.ret_bool HN.out.symm, HBv.out⟩
end Go.Proofs.YtonfkonjkgalhaaDoor
