/- WalLasts: for every size of disk, every row of acts, every last act, every cut, every choice of writes and every number of further openings (no condition, no bound on size) the law answers true. -/
import Derived.Test.YtogkaoiiddhdbaaAcv
namespace Go.Proofs.Ytogkaoiiddhdbaa
open Go.ChangeShapes Go.WideShapes Go.ChangeAt Go.RowKit
set_option linter.unusedVariables false

namespace Wl
theorem OwnT.low {w : World} {base base' : Nat} {v : Value} {ts : List (List UInt8)} (h : OwnT w base v ts) (hb : base' ≤ base) : OwnT w base' v ts := by
  refine ⟨h.1, ?_⟩
  rcases h.2 with h2 | ⟨g, cap, cur, h3, h4, h5⟩
  · exact .inl h2
  · exact .inr ⟨g, cap, cur, h3, Nat.le_trans hb h4, h5⟩
/-- The records that there are behind the last act, if it is done. -/
def aft (t : L) (x : Dk.ActD) : List (List UInt8) := if x.kind = 1 then listL x else t.rs ++ [recL x.data x.size]
theorem aft_one {t : L} {x : Dk.ActD} (h : x.kind = 1) : aft t x = listL x := if_pos h
theorem aft_not {t : L} {x : Dk.ActD} (h : ¬ x.kind = 1) : aft t x = t.rs ++ [recL x.data x.size] := if_neg h
theorem length_aft (t : L) (x : Dk.ActD) : (aft t x).length ≤ t.rs.length + 12 := by
  unfold aft
  split
  · rw [length_listL]; omega
  · simp
structure Ph2 (n : Nat) (w1 w8 : World) (X : Nat → Prop) (q p : Nat) (rs : List (List UInt8)) (wx : World) (t1 : L) : Prop where
  good : Good n t1
  rs : t1.rs = rs
  g : t1.g ≤ 41
  live : LiveL w1 X wx q p t1
  same : Dk.Same X w8 wx
structure Ph3 (n : Nat) (w1 w8 : World) (X : Nat → Prop) (q p : Nat) (t1 : L) (B : List (List UInt8)) (wx : World) (code : Int) (t2 : L) : Prop where
  out : Out n t1 t2 code B 43
  live : LiveL w1 X wx q p t2
  same : Dk.Same X w8 wx
def IsPh2 (n : Nat) (w1 w8 : World) (X : Nat → Prop) (q p : Nat) (rs : List (List UInt8)) (v : Value) (wx : World) : Prop := v = .bool false ∧ ∃ t1, Ph2 n w1 w8 X q p rs wx t1
def IsPh3 (n : Nat) (w1 w8 : World) (X : Nat → Prop) (q p : Nat) (t1 : L) (B : List (List UInt8)) (v : Value) (wx : World) : Prop := ∃ code t2, v = .int .i64 code ∧ Ph3 n w1 w8 X q p t1 B wx code t2
theorem fuse_ok {w0 w : World} {X : Nat → Prop} {p : Nat} {s : Dk.S} (k : Int) (h : Dk.Live w0 X w p s) (hk : 0 ≤ k) (hd : s.down = false) :
    Calls Try.prog 26 #[.pointer (some ⟨p, 0, none⟩), .int .i64 k] w fun e w' => e = .returned (.int .i64 0) ∧ Hid (Dk.Live w0 X w' p (Wl.fuse s k)) ∧ Hid (Dk.Same X w w') :=
  (fuse_live k h).mono fun e w' ⟨h1, h2, h3⟩ => ⟨by rw [h1, if_neg (by omega), if_neg (by simp [hd])], h2, h3⟩
theorem fuse_okL {w0 w : World} {X : Nat → Prop} {q p : Nat} {t : L} (k : Int) (h : LiveL w0 X w q p t) (hk : 0 ≤ k) (hd : t.d.down = false) :
    Calls Try.prog 26 #[.pointer (some ⟨p, 0, none⟩), .int .i64 k] w fun e w' => e = .returned (.int .i64 0) ∧ Hid (LiveL w0 X w' q p { t with d := Wl.fuse t.d k }) ∧ Hid (Dk.Same X w w') :=
  (fuse_liveL k h).mono fun e w' ⟨h1, h2, h3⟩ => ⟨by rw [h1, if_neg (by omega), if_neg (by simp [hd])], h2, h3⟩
end Wl
set_option maxRecDepth 8000 in
set_option maxHeartbeats 20000000 in
theorem lasts_core (n : Nat) (h4 : 4 ≤ n) (h60 : n ≤ 60) (A : Option Addr) (zs : List Dk.ActD) (c : Nat) (x : Dk.ActD) (Ad Ak : Option Addr) (cd ck : Nat) (cut : Int) (K : Option Addr) (keep : List Bool) (kc : Nat) (ag : Int) (w : World)
    (hI : Dk.Acts w (· < w.heap.size) A zs) (hl : zs.length ≤ 40) (hd : Dk.Bts w (· < w.heap.size) Ad x.data) (hdc : x.data.length ≤ cd) (hld : x.data.length ≤ 9223372036854775807) (hk : Dk.Bls w (· < w.heap.size) K keep) (hag1 : ag ≤ 9223372036854775807) (hc1 : cut ≤ 9223372036854775807) :
    Calls Try.prog 6 #[.int .i64 (n : Int), .slice A zs.length c, Wl.av x Ad Ak cd ck, .int .i64 cut, .slice K keep.length kc, .int .i64 ag] w fun e w' => e = .returned (.bool true) ∧ Below w.heap.size w w' := by
  have HI := Lib.hid hI
  have HD := Lib.hid hd
  have HK := Lib.hid hk
  clear hI hd hk
  go_enter Try.func6, Try.ntmps6
  go_upto_region 6 with (first
    | (refine Wl.wpList_boxA rfl _ rfl x Ad Ak cd ck rfl ?_; intro wa ha hba hsa; have HA := Lib.hid ha; clear ha)
    | (go_at_call 10; refine (awake_any _).mono ?_; rintro e w1 ⟨rfl, hbw⟩; have hs1 := hbw.size)
    | (go_at_call 33; refine (begun_any w1 n h4 h60 A zs c w.heap.size (by omega) (HI.out.below (hba.trans (hbw.mono (by omega)))) hl).mono ?_; rintro e w2 ⟨q, p, t, rfl, HL2, HG2⟩))
  have hb0 : Hid (Below w.heap.size w w1) := hba.trans (hbw.mono (by omega))
  have HFT := Lib.hid (HG2.out.1.fits (by omega))
  have hrs := HFT.out.rs
  go_upto_region 7 with (first
    | (go_at_call 34; refine (records_live HL2.out HFT.out).mono ?_; rintro e w3 ⟨A3, c3, rfl, HR3, hb3⟩)
    | (go_at_call 22; refine (texts_any _ A3 t.rs c3 _ _ HR3.out.prts (by omega) rfl).mono ?_; rintro e w4 ⟨A4, c4, rfl, HR4, hb4⟩))
  have hb24 : Hid (Below w2.heap.size w2 w4) := hb3.trans (hb4.mono hb3.size)
  have hBx : Hid (Below wa.heap.size wa w4) := (hbw.trans ((HL2.out.bl).mono hs1)).trans (hb24.out.mono (by have := HL2.out.bl.size; omega))
  have h04 : w.heap.size < w4.heap.size := by have := hBx.out.size; omega
  have HAB : Hid (Wl.AB w4 w.heap.size x Ad Ak cd ck) := HA.out.kept (hBx.out.block _ (by omega))
  have hc3 := HAB.out.c3
  have hc4 := HAB.out.c4
  go_cut [17] (fun s17 wx => Hid (Wl.OwnT wx w4.heap.size s17 (t.rs ++ [Wl.recL x.data x.size]) ∧ Below w4.heap.size w4 wx))
  case first =>
    refine wp_region_noPanic ?_
    refine wp_region_held_drew (S := fun w' => Below w4.heap.size w4 w') (by kernel_rfl) (Below.refl _ _).drew (fun hHeld => ?_)
    refine wpAnyH_take (i := 1) (oi := ⟨some 51, _, _, _, _, _⟩) (v := ?_) rfl (by kernel_rfl) (by kernel_rfl) (by kernel_rfl) (fun _ _ _ h => h) (Or.inl ⟨by rfl, ?_⟩) (by assumption) ?_
    rotate_left
    · (intro wz hSw; (try dsimp only at hSw); have hz3 := (HAB.out.kept (hSw.block _ (by omega))).c3; have hz4 := (HAB.out.kept (hSw.block _ (by omega))).c4; go_simp <;> with_reducible rfl)
    try simp only [Act.put]
    try simp only [List.setIfInBounds_toArray]
    try simp only [List.set_cons_succ]
    try simp only [List.set_cons_zero]
    refine wpAnyH_take (i := 3) (oi := ⟨some 53, _, _, _, _, _⟩) (v := ?_) rfl (by kernel_rfl) (by kernel_rfl) (by kernel_rfl) (fun _ _ _ h => h) (Or.inl ⟨by rfl, ?_⟩) (by assumption) ?_
    rotate_left
    · (intro wz hSw; (try dsimp only at hSw); have hz3 := (HAB.out.kept (hSw.block _ (by omega))).c3; have hz4 := (HAB.out.kept (hSw.block _ (by omega))).c4; go_simp <;> with_reducible rfl)
    try simp only [Act.put]
    try simp only [List.setIfInBounds_toArray]
    try simp only [List.set_cons_succ]
    try simp only [List.set_cons_zero]
    refine wpAnyH_take (i := 4) (oi := ⟨some 54, _, _, _, _, _⟩) (v := ?_) rfl (by kernel_rfl) (by kernel_rfl) (by kernel_rfl) (fun _ _ _ h => h) (Or.inl ⟨by rfl, ?_⟩) (by assumption) ?_
    rotate_left
    · (intro wz hSw; (try dsimp only at hSw); have hz3 := (HAB.out.kept (hSw.block _ (by omega))).c3; have hz4 := (HAB.out.kept (hSw.block _ (by omega))).c4; go_simp <;> with_reducible rfl)
    try simp only [Act.put]
    try simp only [List.setIfInBounds_toArray]
    try simp only [List.set_cons_succ]
    try simp only [List.set_cons_zero]
    refine wpAnyH_take (i := 5) (oi := ⟨some 55, _, _, _, _, _⟩) (v := ?_) rfl (by kernel_rfl) (by kernel_rfl) (by kernel_rfl) (fun _ _ _ h => h) (Or.inl ⟨by rfl, ?_⟩) (by assumption) ?_
    rotate_left
    · (intro wz hSw; (try dsimp only at hSw); have hz3 := (HAB.out.kept (hSw.block _ (by omega))).c3; have hz4 := (HAB.out.kept (hSw.block _ (by omega))).c4; go_simp <;> with_reducible rfl)
    try simp only [Act.put]
    try simp only [List.setIfInBounds_toArray]
    try simp only [List.set_cons_succ]
    try simp only [List.set_cons_zero]
    refine wpAnyH_take (i := 6) (oi := ⟨some 56, _, _, _, _, _⟩) (v := ?_) rfl (by kernel_rfl) (by kernel_rfl) (by kernel_rfl) (fun _ _ _ h => h) (Or.inl ⟨by rfl, ?_⟩) (by assumption) ?_
    rotate_left
    · (intro wz hSw; (try dsimp only at hSw); have hz3 := (HAB.out.kept (hSw.block _ (by omega))).c3; have hz4 := (HAB.out.kept (hSw.block _ (by omega))).c4; go_simp <;> with_reducible rfl)
    try simp only [Act.put]
    try simp only [List.setIfInBounds_toArray]
    try simp only [List.set_cons_succ]
    try simp only [List.set_cons_zero]
    refine wpAnyH_ready (rs := [0]) (by kernel_rfl) (by simp) ?_
    refine AllReadyH.cons (o := ⟨some 50, _, _, _, _, _⟩) rfl (fun K hK => ?_) AllReadyH.nil
    go_simp
    refine hK.out _ _ ?_ (fun hHeld2 => ?_)
    · exact (Below.refl _ _).drew.alloc (Nat.le_refl _) _
    clear hK K
    try simp only [Act.put]
    try simp only [List.setIfInBounds_toArray]
    try simp only [List.set_cons_succ]
    try simp only [List.set_cons_zero]
    refine wpAnyH_ready (rs := [2]) (by kernel_rfl) (by simp) ?_
    refine AllReadyH.cons (o := ⟨some 52, _, _, _, _, _⟩) rfl (fun K hK => ?_) AllReadyH.nil
    rw [if_pos (by rfl)]
    refine Wl.wp_appendU (.tmp 50) (.tmp 51) rfl w4.heap.size _ [] t.rs (Wl.OwnT.lit0 _ (by simp)) rfl (by simp) A4 _ c4 _ (HR4.out.txt.kept (fun k hk => ?_)) rfl rfl HR4.out.none_len (by simp; omega) ?_
    · exact (((Below.refl _ w4).drew.alloc (Nat.le_refl _) _).block k hk.2)
    intro v5 w5 HO5 hb5
    have hb45 : Below w4.heap.size w4 w5 := ((Below.refl _ w4).drew.alloc (Nat.le_refl _) _).trans hb5
    refine hK.out _ _ ?_ (fun hHeld2 => ?_)
    · exact hb45
    clear hK K
    try simp only [Act.put]
    try simp only [List.setIfInBounds_toArray]
    try simp only [List.set_cons_succ]
    try simp only [List.set_cons_zero]
    refine wpAnyH_ready (rs := [7]) (by kernel_rfl) (by simp) ?_
    refine AllReadyH.cons (o := ⟨some 57, _, _, _, _, _⟩) rfl (fun K hK => ?_) AllReadyH.nil
    go_simp
    go_at_call 17
    refine (record_any Ad x.data cd _ x.size w5 _ (HD.out.kept (fun k hk => (hb45.block k (by omega)).trans (((hb0.out.trans ((HL2.out.bl.trans (hb24.out.mono (HL2.out.bl.size))).mono (hb0.out.size))).block k hk)))) (by omega) rfl).mono ?_
    rintro e w6 ⟨rfl, HR6, hb6⟩
    have hb46 : Below w4.heap.size w4 w6 := hb45.trans (hb6.mono hb45.size)
    have hcv := Dk.conv HR6.out.bts (Wl.clampR x.size)
    rw [Wl.length_recL] at hcv
    go_wp2_with (fail)
    refine hK.out _ _ ?_ (fun hHeld2 => ?_)
    · exact hb46
    clear hK K
    try simp only [Act.put]
    try simp only [List.setIfInBounds_toArray]
    try simp only [List.set_cons_succ]
    try simp only [List.set_cons_zero]
    refine wpAnyH_ready (rs := [8]) (by kernel_rfl) (by simp) ?_
    refine AllReadyH.cons (o := ⟨some 58, _, _, _, _, _⟩) rfl (fun K hK => ?_) AllReadyH.nil
    go_simp
    refine hK.out _ _ ?_ (fun hHeld2 => ?_)
    · exact hb46
    clear hK K
    try simp only [Act.put]
    try simp only [List.setIfInBounds_toArray]
    try simp only [List.set_cons_succ]
    try simp only [List.set_cons_zero]
    refine wpAnyH_ready (rs := [9]) (by kernel_rfl) (by simp) ?_
    refine AllReadyH.cons (o := ⟨some 59, _, _, _, _, _⟩) rfl (fun K hK => ?_) AllReadyH.nil
    go_simp
    refine hK.out _ _ ?_ (fun hHeld2 => ?_)
    · exact hb46.alloc hb46.size _
    clear hK K
    try simp only [Act.put]
    try simp only [List.setIfInBounds_toArray]
    try simp only [List.set_cons_succ]
    try simp only [List.set_cons_zero]
    refine wpAnyH_ready (rs := [10]) (by kernel_rfl) (by simp) ?_
    refine AllReadyH.cons (o := ⟨some 60, _, _, _, _, _⟩) rfl (fun K hK => ?_) AllReadyH.nil
    rw [if_pos (by rfl)]
    refine Wl.wp_appendU (.tmp 52) (.tmp 59) rfl w4.heap.size _ ([] ++ t.rs) [Wl.recL x.data x.size] (HO5.out.below (hb6.trans ((Below.refl _ w6).alloc (Nat.le_refl _) _ |>.mono hb6.size))) rfl (by simp; have := hb46.size; omega) _ _ _ _ (Wl.txt_lit w6 _) rfl rfl (fun h => by cases h) (by simp; omega) ?_
    intro v7 w7 HO7 hb7
    have hb47 : Below w4.heap.size w4 w7 := (hb46.alloc hb46.size _).trans hb7
    refine hK.out _ _ ?_ (fun hHeld2 => ?_)
    · exact hb47
    clear hK K
    try simp only [Act.put]
    try simp only [List.setIfInBounds_toArray]
    try simp only [List.set_cons_succ]
    try simp only [List.set_cons_zero]
    refine wpAnyH_ready (rs := [11]) (by kernel_rfl) (by simp) ?_
    refine AllReadyH.cons (o := ⟨some 17, _, _, _, _, _⟩) rfl (fun K hK => ?_) AllReadyH.nil
    go_simp
    refine hK.out _ _ ?_ (fun hHeld2 => ?_)
    · exact hb47
    clear hK K
    try simp only [Act.put]
    try simp only [List.setIfInBounds_toArray]
    try simp only [List.set_cons_succ]
    try simp only [List.set_cons_zero]
    refine wpAnyH_done (by kernel_rfl) ?_ _
    refine NoPanic.normal ?_
    go_wp2_with (fail)
    go_meet
    exact ⟨by have := HO7.out; rw [List.nil_append] at this; exact this, hb47⟩
  case rest =>
  obtain ⟨w5, ew5⟩ : ∃ w5, w5 = wc := ⟨_, rfl⟩
  subst ew5
  obtain ⟨A5, c5, e5⟩ := hcut.out.1.form
  have hb45 : Below w4.heap.size w4 w5 := hcut.out.2
  have HO5 := Lib.hid hcut.out.1
  clear hcut
  have hlen5 : (t.rs ++ [Wl.recL x.data x.size]).length = t.rs.length + 1 := by simp
  rw [hlen5] at e5
  subst e5
  clear hlen5
  have hb05 : Hid (Below w.heap.size w w5) := (hb0.out.trans ((HL2.out.bl.trans (hb24.out.mono (HL2.out.bl.size))).mono (hb0.out.size))).trans (hb45.mono (by omega))
  have hc0 := (HAB.out.kept (hb45.block _ h04)).c0
  have HAB5 := Lib.hid (HAB.out.kept (hb45.block _ h04))
  have HD5 : Hid (Dk.Bts w5 (· < w.heap.size) Ad x.data) := HD.out.kept (fun k hk => hb05.out.block k hk)
  clear hc3 hc4
  go_upto_if 63 with (fail)
  go_cut [17] (fun s17 wx => Hid (Wl.OwnT wx w4.heap.size s17 (Wl.aft t x) ∧ Below w4.heap.size w4 wx))
  case first =>
    by_cases e1 : x.kind = 1
    · have e1b : (x.kind == 1) = true := beq_iff_eq.2 e1
      have HAF := Lib.hid (Wl.aft_one (t := t) e1)
      have HLN : Hid ((Wl.listL x).length ≤ 900000) := show _ ≤ _ by rw [Wl.length_listL]; omega
      clear e1
      go_wp2_with (first
        | (refine Wl.wpList_loadA rfl _ rfl w.heap.size 0 rfl x Ad Ak cd ck HAB5.out.range ?_)
        | (go_at_call 20; refine (list_any w5 x Ad Ak cd ck _ HD5.out hdc hld).mono ?_; rintro e w6 ⟨A6, c6, rfl, HR6, hb6⟩)
        | (go_at_call 22; refine (texts_any _ A6 (Wl.listL x) c6 _ _ HR6.out.prts HLN.out rfl).mono ?_; rintro e w7 ⟨A7, c7, rfl, HR7, hb7⟩))
      go_meet
      exact ⟨by rw [HAF.out]; exact HR7.out.low (by have := hb45.size; have := hb6.size; omega), (hb45.trans (hb6.mono hb45.size)).trans (hb7.mono (by have := hb45.size; have := hb6.size; omega))⟩
    · have e1b : (x.kind == 1) = false := beq_eq_false_iff_ne.2 e1
      have HAF := Lib.hid (Wl.aft_not (t := t) e1)
      clear e1
      go_wp2
      go_meet
      exact ⟨by rw [HAF.out]; exact HO5.out, hb45⟩
  case rest =>
  clear hc0 HO5 HAB5 HD5 hb05
  obtain ⟨w8, ew8⟩ : ∃ w8, w8 = wc := ⟨_, rfl⟩
  subst ew8
  obtain ⟨A6, c6, e6⟩ := hcut.out.1.form
  have hb48 : Below w4.heap.size w4 w8 := hcut.out.2
  have HO8 := Lib.hid hcut.out.1
  clear hcut hb45
  have haf : (Wl.aft t x).length ≤ 6000 := by have := Wl.length_aft t x; omega
  obtain ⟨B, hB⟩ : ∃ B, B = Wl.aft t x := ⟨_, rfl⟩
  rw [← hB] at HO8 haf e6
  subst e6
  have HAF1 : Hid (x.kind = 1 → B = Wl.listL x) := fun h => by rw [hB]; exact Wl.aft_one h
  have HAF2 : Hid (¬ x.kind = 1 → B = t.rs ++ [Wl.recL x.data x.size]) := fun h => by rw [hB]; exact Wl.aft_not h
  clear hB
  have hs12 := HL2.out.bl.size
  have hs24 := hb24.out.size
  have hs3 := hb3.size
  have hs4 := hb4.size
  have hb28 : Below w2.heap.size w2 w8 := hb24.out.trans (hb48.mono hs24)
  obtain ⟨X, HL8, HT4, HT5⟩ : ∃ X : Nat → Prop, Hid (Wl.LiveL w1 X w8 q p t) ∧ Hid (Wl.Txt w8 X A4 t.rs) ∧ Hid (Wl.Txt w8 X A6 B) := by
    refine ⟨fun k => False ∨ (w2.heap.size ≤ k ∧ k < w8.heap.size), HL2.out.more hb28, ?_, ?_⟩
    · exact (HR4.out.below hb48).txt.mono (fun k hk => .inr ⟨by omega, hk.2⟩)
    · exact HO8.out.txt.mono (fun k hk => .inr ⟨by omega, hk.2⟩)
  have HGT : Hid (∀ wz, Below w1.heap.size w1 wz → Wl.AB wz w.heap.size x Ad Ak cd ck ∧ Dk.Bts wz (· < w.heap.size) Ad x.data ∧ Dk.Bls wz (fun k => k < w1.heap.size ∨ X k) K keep) := fun wz hz => by
    have hwz := hb0.out.trans (hz.mono hb0.out.size)
    refine ⟨HA.out.kept ((hz.block _ (by omega)).trans (hbw.block _ (by omega))), HD.out.kept (fun k hk => hwz.block k hk), Wl.Bls.mono (HK.out.kept (fun k hk => hwz.block k hk)) (fun k hk => .inl (by omega))⟩
  have hs1' : Hid (w.heap.size ≤ w1.heap.size) := show _ ≤ _ by omega
  clear HL2 HR3 HR4 hb3 hb4 hb24 hb48 HO8 HAB hBx h04 hb28 HD HK HI HA hba hsa hs12 hs24 hs3 hs4 hbw hs1
  clear w2 w3 w4 wa
  have hg1 := HG2.out.1
  have hg41 := HG2.out.2.2
  go_upto_region 10 with (fail)
  go_cut [74] (fun s74 wx => Hid (Wl.IsPh2 n w1 w8 X q p t.rs s74 wx))
  case first =>
    by_cases hcut0 : 0 ≤ cut
    · have HFU : Hid (Calls Try.prog 26 #[.pointer (some ⟨p, 0, none⟩), .int .i64 cut] w8 fun e w' => e = .returned (.int .i64 0) ∧ Hid (Wl.LiveL w1 X w' q p { t with d := Wl.fuse t.d cut }) ∧ Hid (Dk.Same X w8 w')) := Wl.fuse_okL cut HL8.out hcut0 hg1.up
      have HP : Hid (Wl.Good n { t with d := Wl.fuse t.d cut }) := hg1.fused cut hcut0 hc1
      clear hg1
      go_wp2_with (go_at_call 26; refine HFU.out.mono ?_; rintro e w9 ⟨rfl, HL9, HS9⟩)
      go_meet
      exact ⟨rfl, _, HP.out, rfl, hg41, HL9.out, HS9.out⟩
    · clear hg1
      go_wp2
      go_meet
      exact ⟨rfl, t, HG2.out.1, rfl, hg41, HL8.out, Dk.Same.refl _ _⟩
  case rest =>
  obtain ⟨w9, ew9⟩ : ∃ w9, w9 = wc := ⟨_, rfl⟩
  subst ew9
  obtain ⟨e74, t1, hp2⟩ := hcut.out
  subst e74
  have H2 := Lib.hid hp2
  have HF1 := Lib.hid (hp2.good.fits (by omega))
  have hc0 := (HGT.out w9 hp2.live.bl).1.c0
  have hcc3 := (HGT.out w9 hp2.live.bl).1.c3
  have hcc4 := (HGT.out w9 hp2.live.bl).1.c4
  clear hcut hp2 hg1 hg41
  go_upto_if 77 with (fail)
  go_cut [18] (fun s18 wx => Hid (Wl.IsPh3 n w1 w8 X q p t1 B s18 wx))
  case first =>
    by_cases e1 : x.kind = 1
    · have e1b : (x.kind == 1) = true := beq_iff_eq.2 e1
      have HLN : Hid ((Wl.listL x).length ≤ 900000) := show _ ≤ _ by rw [Wl.length_listL]; omega
      have HLE : Hid (∀ i (hi : i < (Wl.listL x).length), (Wl.listL x)[i].length ≤ 9223372036854775807) := fun i hi => Nat.le_trans (Wl.mem_listL x _ (List.getElem_mem hi)) (by decide)
      have HOUT : Hid (Wl.Out n t1 (t1.renew (Wl.listL x)) (t1.rcode (Wl.listL x)) B 43) := by
        have := H2.out.good.out_renew h60 H2.out.g (Wl.listL x)
        rw [← HAF1.out e1] at this ⊢
        exact this
      clear e1
      go_wp2_with (first
        | (refine Wl.wpList_loadA rfl _ rfl w.heap.size 0 rfl x Ad Ak cd ck (HGT.out w9 H2.out.live.bl).1.range ?_)
        | (go_at_call 20; refine (list_any w9 x Ad Ak cd ck _ (HGT.out w9 H2.out.live.bl).2.1 hdc hld).mono ?_; rintro e wa ⟨Aa, ca, rfl, HRa, hba⟩)
        | (go_at_call 23; refine (renew_live (H2.out.live.below hba).1 HF1.out HRa.out.prts HLN.out HLE.out rfl).mono ?_; rintro e wb ⟨rfl, HLb, HSb⟩))
      go_meet
      exact ⟨_, _, rfl, HOUT.out, HLb.out, (H2.out.same.trans (H2.out.live.below hba).2).trans HSb.out⟩
    · have e1b : (x.kind == 1) = false := beq_eq_false_iff_ne.2 e1
      have HOUT : Hid (Wl.Out n t1 (t1.append (Wl.recL x.data x.size)) (t1.acode (Wl.recL x.data x.size)) B 43) := by
        have := H2.out.good.out_append h60 H2.out.g (Wl.recL x.data x.size)
        rw [H2.out.rs, ← HAF2.out e1] at this
        exact this
      clear e1
      go_wp2_with (first
        | (go_at_call 17; refine (record_any Ad x.data cd _ x.size w9 _ (HGT.out w9 H2.out.live.bl).2.1 hld rfl).mono ?_; rintro e wa ⟨rfl, HRa, hba⟩)
        | (go_at_call 19; refine (Wl.app_step H2.out.live HF1.out hba (Nat.le_refl _) HRa.out (Wl.length_recL _ _) (Nat.le_trans (Wl.clampR_le _) (by decide))).mono ?_; rintro e wb ⟨rfl, HLb, HSb, _⟩))
      go_meet
      exact ⟨_, _, rfl, HOUT.out, HLb.out, H2.out.same.trans HSb.out⟩
  case rest =>
  obtain ⟨w10, ew10⟩ : ∃ w10, w10 = wc := ⟨_, rfl⟩
  subst ew10
  obtain ⟨code, t2, e18, hp3⟩ := hcut.out
  subst e18
  have H3 := Lib.hid hp3
  clear hcut hc0 hcc3 hcc4
  have HSB : Hid (∀ wz, Dk.Same X w8 wz → Wl.Txt wz X A4 t.rs ∧ Wl.Txt wz X A6 B) := fun wz hz => ⟨HT4.out.kept hz, HT5.out.kept hz⟩
  have HFN : Hid (∀ wz, Below w1.heap.size w1 wz → Below w.heap.size w wz) := fun wz hz => hb0.out.trans (hz.mono hs1'.out)
  have HCUT : Hid (∀ wz, Below w10.heap.size w10 wz → Calls Try.prog 36 #[.pointer (some ⟨p, 0, none⟩)] wz fun e w' => e = .returned noResult ∧ Hid (Dk.Live w1 X w' p { t2.d with down := true }) ∧ Hid (Dk.Same X w8 w')) := fun wz hz =>
    (cut_live (H3.out.live.below hz).1.disk).mono fun e w' ⟨h1, h2, h3⟩ => ⟨h1, h2, (H3.out.same.trans (H3.out.live.below hz).2).trans h3.out⟩
  have HT1 := Lib.hid H2.out.rs
  clear hp3 HL8 HT4 HT5 H2 HG2
  rcases H3.out.out with ⟨ho1, ho2⟩ | ⟨ho1, ho2, ho3, ho4⟩ | ⟨ho1, ho3, ho4⟩
  · subst ho2
    have HLt := Lib.hid H3.out.live
    have HSt := Lib.hid H3.out.same
    clear H3 HCUT
    rcases ho1 with rfl | rfl
    all_goals
      go_wp2_with (first
        | (go_at_call 34; refine (records_live HLt.out HF1.out).mono ?_; rw [HT1.out]; rintro e wa ⟨Aa, ca, rfl, HRa, hba⟩)
        | (go_at_call 22; refine (texts_any _ Aa t.rs ca _ _ HRa.out.prts (by omega) rfl).mono ?_; rintro e wb ⟨Ab, cb, rfl, HRb, hbb⟩)
        | (go_at_call 35; refine (same_any _ Ab A4 t.rs t.rs cb c4 _ _ _ _ HRb.out.txt (HSB.out wb (HSt.out.trans (HLt.out.below (hba.trans (hbb.mono hba.size))).2)).1 (by omega) (by omega) rfl rfl).mono ?_; rw [decide_eq_true rfl]; rintro e wd ⟨rfl, hbd⟩))
      go_ret
      exact ⟨rfl, HFN.out _ ((HLt.out.bl.trans ((hba.trans (hbb.mono hba.size)).mono HLt.out.bl.size)).trans (hbd.mono (by have := HLt.out.bl.size; have := hba.size; have := hbb.size; omega)))⟩
  · subst ho1
    have HF2 := Lib.hid ho3
    have HRS2 := Lib.hid ho2
    have HW2 : Hid (({ t2.d with down := true } : Dk.S).wait.length < 100000) := show t2.d.wait.length < 100000 by have := ho3.ok.ww; omega
    have HR0 := Lib.hid (ho4 keep)
    clear ho2 ho3 ho4
    have hcx : (0 : Int) = 0 := rfl
    clear hcx
    go_upto_region 22 with (first
      | (go_at_call 34; refine (records_live H3.out.live HF2.out).mono ?_; rw [HRS2.out]; rintro e wa ⟨Aa, ca, rfl, HRa, hba⟩)
      | (go_at_call 22; refine (texts_any _ Aa B ca _ _ HRa.out.prts (by omega) rfl).mono ?_; rintro e wb ⟨Ab, cb, rfl, HRb, hbb⟩)
      | (go_at_call 35; refine (same_any _ Ab A6 B B cb c6 _ _ _ _ HRb.out.txt (HSB.out wb (H3.out.same.trans (H3.out.live.below (hba.trans (hbb.mono hba.size))).2)).2 (by omega) (by omega) rfl rfl).mono ?_; rw [decide_eq_true rfl]; rintro e wd ⟨rfl, hbd⟩)
      | (go_at_call 36; refine (HCUT.out _ (by first | exact Below.refl _ _ | exact (hba.trans (hbb.mono hba.size)).trans (hbd.mono (by have := hba.size; have := hbb.size; omega)))).mono ?_; rintro e we ⟨rfl, HLe, HSe⟩)
      | (go_at_call 37; refine (restart_live HLe.out (HGT.out we HLe.out.bl).2.2 HW2.out).mono ?_; rintro e wf ⟨rfl, HLf, HSf⟩))
    have HSX : Hid (Dk.Same X w8 wf) := HSe.out.trans HSf.out
    generalize ({ t2.d with down := true } : Dk.S).restart keep = s0 at *
    clear HSe HSf HLe HCUT HW2
    (try clear HRa HRb hba hbb hbd)
    go_wp2_with (fail)
    go_loopw [19, 20, 21] (fun i a b wr => ∃ (j : Nat) (s : Dk.S), j ≤ 3 ∧ i = .int .i64 j ∧ Hid (Dk.Live w1 X wr p s) ∧ Hid (Wl.RS n s B (43 + 2 * j)) ∧ Hid (Dk.Same X w8 wr)) (fun i _ _ _ => 3 - (intOf i).toNat)
    case atStart => exact ⟨0, s0, by omega, rfl, HLf, HR0, HSX⟩
    case round =>
      obtain ⟨j, s, hj, rfl, HLr, HR, HSr⟩ := hrel
      have hup := HR.out.up
      by_cases hjj : (j : Int) < ag ∧ j < 3
      · obtain ⟨hja, hj3⟩ := hjj
        have hj3' : (j : Int) < 3 := by omega
        have hm1 : 1 ≤ min ag 50 := by omega
        have hm2 : min ag 50 ≤ 50 := by omega
        have hws : IntKind.i64.wrap (min ag 50 + (j : Int)) = min ag 50 + (j : Int) := IntWalk.i64_in _ (by omega)
        obtain ⟨a1, a2, a3, a4⟩ := HR.out.again (by omega) (by omega) (min ag 50 + (j : Int)) (by omega) (by omega)
        have HFU : Hid (∀ wz, Dk.Live w1 X wz p s → Calls Try.prog 26 #[.pointer (some ⟨p, 0, none⟩), .int .i64 (min ag 50 + (j : Int))] wz fun e w' => e = .returned (.int .i64 0) ∧ Hid (Dk.Live w1 X w' p (Wl.fuse s (min ag 50 + (j : Int)))) ∧ Hid (Dk.Same X wz w')) := fun wz hz => Wl.fuse_ok _ hz (by omega) hup
        generalize Wl.fuse s (min ag 50 + (j : Int)) = s1 at *
        rcases a4 with ⟨b1, b2, b3⟩ | ⟨b1, b2, b3⟩
        · have HOP : Hid (∀ wz, Dk.Live w1 X wz p s1 → Calls Try.prog 38 #[.pointer (some ⟨p, 0, none⟩)] wz fun e w' => Wl.OpenL w1 X wz p (Wl.opened s1) e w') := fun wz hz => open_live hz a1 a2 a3 b1
          have HW2 : Hid (({ (Wl.opened s1).d with down := true } : Dk.S).wait.length < 100000) := b2
          have HRN := Lib.hid (b3 keep)
          clear a1 a2 a3 b1 b2 b3 hup HR
          generalize Wl.opened s1 = T at *
          go_wp2_with (first
            | (go_at_call 26; refine (HFU.out _ HLr.out).mono ?_; rintro e wb ⟨rfl, HLb, HSb⟩)
            | (go_at_call 38; refine (HOP.out _ HLb.out).mono ?_; rintro e wd ⟨q2, rfl, HLd, HSd⟩)
            | (go_at_call 36; refine (cut_live HLd.out.disk).mono ?_; rintro e we ⟨rfl, HLe, HSe⟩)
            | (go_at_call 37; refine (restart_live HLe.out (HGT.out we HLe.out.bl).2.2 HW2.out).mono ?_; rintro e wf ⟨rfl, HLf2, HSf⟩))
          have HSN : Hid (Dk.Same X w8 wf) := (((HSr.out.trans HSb.out).trans HSd.out).trans HSe.out).trans HSf.out
          go_roundw
          case rel => exact ⟨j + 1, _, by omega, by go_num, HLf2, HRN, HSN⟩
          case measure => simp [intOf]; omega
        · have HOP : Hid (∀ wz, Dk.Live w1 X wz p s1 → Calls Try.prog 38 #[.pointer (some ⟨p, 0, none⟩)] wz fun e w' => e = .returned (.tuple #[.pointer none, .int .i64 3]) ∧ Hid (Dk.Live w1 X w' p (Wl.begin_ s1 (Wl.nextOf s1) (Wl.found s1)).1) ∧ Hid (Dk.Same X wz w')) := fun wz hz => by
            have h := open_cut hz a1 a2 a3 (by rw [b1]; decide)
            rw [b1] at h
            exact h
          have HW2 : Hid (({ (Wl.begin_ s1 (Wl.nextOf s1) (Wl.found s1)).1 with down := true } : Dk.S).wait.length < 100000) := b2
          have HRN := Lib.hid (b3 keep)
          clear a1 a2 a3 b1 b2 b3 hup HR
          generalize (Wl.begin_ s1 (Wl.nextOf s1) (Wl.found s1)).1 = T at *
          go_wp2_with (first
            | (go_at_call 26; refine (HFU.out _ HLr.out).mono ?_; rintro e wb ⟨rfl, HLb, HSb⟩)
            | (go_at_call 38; refine (HOP.out _ HLb.out).mono ?_; rintro e wd ⟨rfl, HLd, HSd⟩)
            | (go_at_call 36; refine (cut_live HLd.out).mono ?_; rintro e we ⟨rfl, HLe, HSe⟩)
            | (go_at_call 37; refine (restart_live HLe.out (HGT.out we HLe.out.bl).2.2 HW2.out).mono ?_; rintro e wf ⟨rfl, HLf2, HSf⟩))
          have HSN : Hid (Dk.Same X w8 wf) := (((HSr.out.trans HSb.out).trans HSd.out).trans HSe.out).trans HSf.out
          go_roundw
          case rel => exact ⟨j + 1, _, by omega, by go_num, HLf2, HRN, HSN⟩
          case measure => simp [intOf]; omega
      · have hdec : (decide ((j : Int) < ag) = true ∧ ¬ (j : Int) < 3) ∨ ¬ (j : Int) < ag := by
          by_cases h : (j : Int) < ag
          · exact .inl ⟨decide_eq_true h, by omega⟩
          · exact .inr h
        clear hjj
        obtain ⟨a1, a2, a3, a4⟩ := HR.out.last (by omega)
        have hok := HR.out.ok (by omega)
        have HOP : Hid (∀ wz, Dk.Live w1 X wz p s → Calls Try.prog 38 #[.pointer (some ⟨p, 0, none⟩)] wz fun e w' => Wl.OpenL w1 X wz p (Wl.opened s) e w') := fun wz hz => open_live hz hok hup a1 a2
        have HFZ := Lib.hid (a3.fits (by omega))
        have HRZ := Lib.hid a4
        clear a1 a2 a3 a4 hok hup HR
        generalize Wl.opened s = T at *
        rcases hdec with ⟨hd1, hd2⟩ | hd1
        all_goals
          go_wp2_with (first
            | (go_at_call 38; refine (HOP.out _ HLr.out).mono ?_; rintro e wd ⟨q2, rfl, HLd, HSd⟩)
            | (go_at_call 34; refine (records_live HLd.out HFZ.out).mono ?_; rw [HRZ.out]; rintro e wg ⟨Ag, cg, rfl, HRg, hbg⟩)
            | (go_at_call 22; refine (texts_any _ Ag B cg _ _ HRg.out.prts (by omega) rfl).mono ?_; rintro e wh ⟨Ah, ch, rfl, HRh, hbh⟩; have HSh := Lib.hid ((HSr.out.trans HSd.out).trans (HLd.out.below (hbg.trans (hbh.mono hbg.size))).2); have HLh := Lib.hid (HLd.out.below (hbg.trans (hbh.mono hbg.size))).1)
            | (go_at_call 35; refine (same_any _ Ah A6 B B ch c6 _ _ _ _ HRh.out.txt (HSB.out wh HSh.out).2 (by omega) (by omega) rfl rfl).mono ?_; rw [decide_eq_true rfl]; rintro e wi ⟨rfl, hbi⟩; have HLi := Lib.hid (HLh.out.below hbi).1))
          go_ret
          exact ⟨rfl, HFN.out _ HLi.out.bl⟩
  · subst ho1
    have HF2 := Lib.hid ho3
    have HRS2 : Hid (B = B) := rfl
    have HW2 : Hid (({ t2.d with down := true } : Dk.S).wait.length < 100000) := show t2.d.wait.length < 100000 by have := ho3.ok.ww; omega
    have key : Wl.RS n (({ t2.d with down := true } : Dk.S).restart keep) B 43 ∨ (Wl.RS n (({ t2.d with down := true } : Dk.S).restart keep) t.rs 43 ∧ ¬ t.rs = B) := by
      by_cases hbe : t.rs = B
      · rcases ho4 keep with hr | hr
        · rw [HT1.out, hbe] at hr; exact .inl hr
        · exact .inl hr
      · rcases ho4 keep with hr | hr
        · rw [HT1.out] at hr; exact .inr ⟨hr, hbe⟩
        · exact .inl hr
    rcases key with hr | ⟨hr, hbe⟩
    · have HR0 := Lib.hid hr
      clear ho3 ho4 hr
      have hcx : (3 : Int) = 3 := rfl
      clear hcx
      go_upto_region 22 with (first
        | (go_at_call 34; refine (records_live H3.out.live HF2.out).mono ?_; rw [HRS2.out]; rintro e wa ⟨Aa, ca, rfl, HRa, hba⟩)
        | (go_at_call 22; refine (texts_any _ Aa B ca _ _ HRa.out.prts (by omega) rfl).mono ?_; rintro e wb ⟨Ab, cb, rfl, HRb, hbb⟩)
        | (go_at_call 35; refine (same_any _ Ab A6 B B cb c6 _ _ _ _ HRb.out.txt (HSB.out wb (H3.out.same.trans (H3.out.live.below (hba.trans (hbb.mono hba.size))).2)).2 (by omega) (by omega) rfl rfl).mono ?_; rw [decide_eq_true rfl]; rintro e wd ⟨rfl, hbd⟩)
        | (go_at_call 36; refine (HCUT.out _ (by first | exact Below.refl _ _ | exact (hba.trans (hbb.mono hba.size)).trans (hbd.mono (by have := hba.size; have := hbb.size; omega)))).mono ?_; rintro e we ⟨rfl, HLe, HSe⟩)
        | (go_at_call 37; refine (restart_live HLe.out (HGT.out we HLe.out.bl).2.2 HW2.out).mono ?_; rintro e wf ⟨rfl, HLf, HSf⟩))
      have HSX : Hid (Dk.Same X w8 wf) := HSe.out.trans HSf.out
      generalize ({ t2.d with down := true } : Dk.S).restart keep = s0 at *
      clear HSe HSf HLe HCUT HW2
      (try clear HRa HRb hba hbb hbd)
      go_wp2_with (fail)
      go_loopw [19, 20, 21] (fun i a b wr => ∃ (j : Nat) (s : Dk.S), j ≤ 3 ∧ i = .int .i64 j ∧ Hid (Dk.Live w1 X wr p s) ∧ Hid (Wl.RS n s B (43 + 2 * j)) ∧ Hid (Dk.Same X w8 wr)) (fun i _ _ _ => 3 - (intOf i).toNat)
      case atStart => exact ⟨0, s0, by omega, rfl, HLf, HR0, HSX⟩
      case round =>
        obtain ⟨j, s, hj, rfl, HLr, HR, HSr⟩ := hrel
        have hup := HR.out.up
        by_cases hjj : (j : Int) < ag ∧ j < 3
        · obtain ⟨hja, hj3⟩ := hjj
          have hj3' : (j : Int) < 3 := by omega
          have hm1 : 1 ≤ min ag 50 := by omega
          have hm2 : min ag 50 ≤ 50 := by omega
          have hws : IntKind.i64.wrap (min ag 50 + (j : Int)) = min ag 50 + (j : Int) := IntWalk.i64_in _ (by omega)
          obtain ⟨a1, a2, a3, a4⟩ := HR.out.again (by omega) (by omega) (min ag 50 + (j : Int)) (by omega) (by omega)
          have HFU : Hid (∀ wz, Dk.Live w1 X wz p s → Calls Try.prog 26 #[.pointer (some ⟨p, 0, none⟩), .int .i64 (min ag 50 + (j : Int))] wz fun e w' => e = .returned (.int .i64 0) ∧ Hid (Dk.Live w1 X w' p (Wl.fuse s (min ag 50 + (j : Int)))) ∧ Hid (Dk.Same X wz w')) := fun wz hz => Wl.fuse_ok _ hz (by omega) hup
          generalize Wl.fuse s (min ag 50 + (j : Int)) = s1 at *
          rcases a4 with ⟨b1, b2, b3⟩ | ⟨b1, b2, b3⟩
          · have HOP : Hid (∀ wz, Dk.Live w1 X wz p s1 → Calls Try.prog 38 #[.pointer (some ⟨p, 0, none⟩)] wz fun e w' => Wl.OpenL w1 X wz p (Wl.opened s1) e w') := fun wz hz => open_live hz a1 a2 a3 b1
            have HW2 : Hid (({ (Wl.opened s1).d with down := true } : Dk.S).wait.length < 100000) := b2
            have HRN := Lib.hid (b3 keep)
            clear a1 a2 a3 b1 b2 b3 hup HR
            generalize Wl.opened s1 = T at *
            go_wp2_with (first
              | (go_at_call 26; refine (HFU.out _ HLr.out).mono ?_; rintro e wb ⟨rfl, HLb, HSb⟩)
              | (go_at_call 38; refine (HOP.out _ HLb.out).mono ?_; rintro e wd ⟨q2, rfl, HLd, HSd⟩)
              | (go_at_call 36; refine (cut_live HLd.out.disk).mono ?_; rintro e we ⟨rfl, HLe, HSe⟩)
              | (go_at_call 37; refine (restart_live HLe.out (HGT.out we HLe.out.bl).2.2 HW2.out).mono ?_; rintro e wf ⟨rfl, HLf2, HSf⟩))
            have HSN : Hid (Dk.Same X w8 wf) := (((HSr.out.trans HSb.out).trans HSd.out).trans HSe.out).trans HSf.out
            go_roundw
            case rel => exact ⟨j + 1, _, by omega, by go_num, HLf2, HRN, HSN⟩
            case measure => simp [intOf]; omega
          · have HOP : Hid (∀ wz, Dk.Live w1 X wz p s1 → Calls Try.prog 38 #[.pointer (some ⟨p, 0, none⟩)] wz fun e w' => e = .returned (.tuple #[.pointer none, .int .i64 3]) ∧ Hid (Dk.Live w1 X w' p (Wl.begin_ s1 (Wl.nextOf s1) (Wl.found s1)).1) ∧ Hid (Dk.Same X wz w')) := fun wz hz => by
              have h := open_cut hz a1 a2 a3 (by rw [b1]; decide)
              rw [b1] at h
              exact h
            have HW2 : Hid (({ (Wl.begin_ s1 (Wl.nextOf s1) (Wl.found s1)).1 with down := true } : Dk.S).wait.length < 100000) := b2
            have HRN := Lib.hid (b3 keep)
            clear a1 a2 a3 b1 b2 b3 hup HR
            generalize (Wl.begin_ s1 (Wl.nextOf s1) (Wl.found s1)).1 = T at *
            go_wp2_with (first
              | (go_at_call 26; refine (HFU.out _ HLr.out).mono ?_; rintro e wb ⟨rfl, HLb, HSb⟩)
              | (go_at_call 38; refine (HOP.out _ HLb.out).mono ?_; rintro e wd ⟨rfl, HLd, HSd⟩)
              | (go_at_call 36; refine (cut_live HLd.out).mono ?_; rintro e we ⟨rfl, HLe, HSe⟩)
              | (go_at_call 37; refine (restart_live HLe.out (HGT.out we HLe.out.bl).2.2 HW2.out).mono ?_; rintro e wf ⟨rfl, HLf2, HSf⟩))
            have HSN : Hid (Dk.Same X w8 wf) := (((HSr.out.trans HSb.out).trans HSd.out).trans HSe.out).trans HSf.out
            go_roundw
            case rel => exact ⟨j + 1, _, by omega, by go_num, HLf2, HRN, HSN⟩
            case measure => simp [intOf]; omega
        · have hdec : (decide ((j : Int) < ag) = true ∧ ¬ (j : Int) < 3) ∨ ¬ (j : Int) < ag := by
            by_cases h : (j : Int) < ag
            · exact .inl ⟨decide_eq_true h, by omega⟩
            · exact .inr h
          clear hjj
          obtain ⟨a1, a2, a3, a4⟩ := HR.out.last (by omega)
          have hok := HR.out.ok (by omega)
          have HOP : Hid (∀ wz, Dk.Live w1 X wz p s → Calls Try.prog 38 #[.pointer (some ⟨p, 0, none⟩)] wz fun e w' => Wl.OpenL w1 X wz p (Wl.opened s) e w') := fun wz hz => open_live hz hok hup a1 a2
          have HFZ := Lib.hid (a3.fits (by omega))
          have HRZ := Lib.hid a4
          clear a1 a2 a3 a4 hok hup HR
          generalize Wl.opened s = T at *
          rcases hdec with ⟨hd1, hd2⟩ | hd1
          all_goals
            go_wp2_with (first
              | (go_at_call 38; refine (HOP.out _ HLr.out).mono ?_; rintro e wd ⟨q2, rfl, HLd, HSd⟩)
              | (go_at_call 34; refine (records_live HLd.out HFZ.out).mono ?_; rw [HRZ.out]; rintro e wg ⟨Ag, cg, rfl, HRg, hbg⟩)
              | (go_at_call 22; refine (texts_any _ Ag B cg _ _ HRg.out.prts (by omega) rfl).mono ?_; rintro e wh ⟨Ah, ch, rfl, HRh, hbh⟩; have HSh := Lib.hid ((HSr.out.trans HSd.out).trans (HLd.out.below (hbg.trans (hbh.mono hbg.size))).2); have HLh := Lib.hid (HLd.out.below (hbg.trans (hbh.mono hbg.size))).1)
              | (go_at_call 35; refine (same_any _ Ah A6 B B ch c6 _ _ _ _ HRh.out.txt (HSB.out wh HSh.out).2 (by omega) (by omega) rfl rfl).mono ?_; rw [decide_eq_true rfl]; rintro e wi ⟨rfl, hbi⟩; have HLi := Lib.hid (HLh.out.below hbi).1))
            go_ret
            exact ⟨rfl, HFN.out _ HLi.out.bl⟩
    · have HR0 := Lib.hid hr
      have HRB := Lib.hid hbe
      clear ho3 ho4 hr hbe
      have hcx : (3 : Int) = 3 := rfl
      clear hcx
      go_upto_region 22 with (first
        | (go_at_call 34; refine (records_live H3.out.live HF2.out).mono ?_; rw [HRS2.out]; rintro e wa ⟨Aa, ca, rfl, HRa, hba⟩)
        | (go_at_call 22; refine (texts_any _ Aa B ca _ _ HRa.out.prts (by omega) rfl).mono ?_; rintro e wb ⟨Ab, cb, rfl, HRb, hbb⟩)
        | (go_at_call 35; refine (same_any _ Ab A6 B B cb c6 _ _ _ _ HRb.out.txt (HSB.out wb (H3.out.same.trans (H3.out.live.below (hba.trans (hbb.mono hba.size))).2)).2 (by omega) (by omega) rfl rfl).mono ?_; rw [decide_eq_true rfl]; rintro e wd ⟨rfl, hbd⟩)
        | (go_at_call 36; refine (HCUT.out _ (by first | exact Below.refl _ _ | exact (hba.trans (hbb.mono hba.size)).trans (hbd.mono (by have := hba.size; have := hbb.size; omega)))).mono ?_; rintro e we ⟨rfl, HLe, HSe⟩)
        | (go_at_call 37; refine (restart_live HLe.out (HGT.out we HLe.out.bl).2.2 HW2.out).mono ?_; rintro e wf ⟨rfl, HLf, HSf⟩))
      have HSX : Hid (Dk.Same X w8 wf) := HSe.out.trans HSf.out
      generalize ({ t2.d with down := true } : Dk.S).restart keep = s0 at *
      clear HSe HSf HLe HCUT HW2
      (try clear HRa HRb hba hbb hbd)
      go_wp2_with (fail)
      go_loopw [19, 20, 21] (fun i a b wr => ∃ (j : Nat) (s : Dk.S), j ≤ 3 ∧ i = .int .i64 j ∧ Hid (Dk.Live w1 X wr p s) ∧ Hid (Wl.RS n s t.rs (43 + 2 * j)) ∧ Hid (Dk.Same X w8 wr)) (fun i _ _ _ => 3 - (intOf i).toNat)
      case atStart => exact ⟨0, s0, by omega, rfl, HLf, HR0, HSX⟩
      case round =>
        obtain ⟨j, s, hj, rfl, HLr, HR, HSr⟩ := hrel
        have hup := HR.out.up
        by_cases hjj : (j : Int) < ag ∧ j < 3
        · obtain ⟨hja, hj3⟩ := hjj
          have hj3' : (j : Int) < 3 := by omega
          have hm1 : 1 ≤ min ag 50 := by omega
          have hm2 : min ag 50 ≤ 50 := by omega
          have hws : IntKind.i64.wrap (min ag 50 + (j : Int)) = min ag 50 + (j : Int) := IntWalk.i64_in _ (by omega)
          obtain ⟨a1, a2, a3, a4⟩ := HR.out.again (by omega) (by omega) (min ag 50 + (j : Int)) (by omega) (by omega)
          have HFU : Hid (∀ wz, Dk.Live w1 X wz p s → Calls Try.prog 26 #[.pointer (some ⟨p, 0, none⟩), .int .i64 (min ag 50 + (j : Int))] wz fun e w' => e = .returned (.int .i64 0) ∧ Hid (Dk.Live w1 X w' p (Wl.fuse s (min ag 50 + (j : Int)))) ∧ Hid (Dk.Same X wz w')) := fun wz hz => Wl.fuse_ok _ hz (by omega) hup
          generalize Wl.fuse s (min ag 50 + (j : Int)) = s1 at *
          rcases a4 with ⟨b1, b2, b3⟩ | ⟨b1, b2, b3⟩
          · have HOP : Hid (∀ wz, Dk.Live w1 X wz p s1 → Calls Try.prog 38 #[.pointer (some ⟨p, 0, none⟩)] wz fun e w' => Wl.OpenL w1 X wz p (Wl.opened s1) e w') := fun wz hz => open_live hz a1 a2 a3 b1
            have HW2 : Hid (({ (Wl.opened s1).d with down := true } : Dk.S).wait.length < 100000) := b2
            have HRN := Lib.hid (b3 keep)
            clear a1 a2 a3 b1 b2 b3 hup HR
            generalize Wl.opened s1 = T at *
            go_wp2_with (first
              | (go_at_call 26; refine (HFU.out _ HLr.out).mono ?_; rintro e wb ⟨rfl, HLb, HSb⟩)
              | (go_at_call 38; refine (HOP.out _ HLb.out).mono ?_; rintro e wd ⟨q2, rfl, HLd, HSd⟩)
              | (go_at_call 36; refine (cut_live HLd.out.disk).mono ?_; rintro e we ⟨rfl, HLe, HSe⟩)
              | (go_at_call 37; refine (restart_live HLe.out (HGT.out we HLe.out.bl).2.2 HW2.out).mono ?_; rintro e wf ⟨rfl, HLf2, HSf⟩))
            have HSN : Hid (Dk.Same X w8 wf) := (((HSr.out.trans HSb.out).trans HSd.out).trans HSe.out).trans HSf.out
            go_roundw
            case rel => exact ⟨j + 1, _, by omega, by go_num, HLf2, HRN, HSN⟩
            case measure => simp [intOf]; omega
          · have HOP : Hid (∀ wz, Dk.Live w1 X wz p s1 → Calls Try.prog 38 #[.pointer (some ⟨p, 0, none⟩)] wz fun e w' => e = .returned (.tuple #[.pointer none, .int .i64 3]) ∧ Hid (Dk.Live w1 X w' p (Wl.begin_ s1 (Wl.nextOf s1) (Wl.found s1)).1) ∧ Hid (Dk.Same X wz w')) := fun wz hz => by
              have h := open_cut hz a1 a2 a3 (by rw [b1]; decide)
              rw [b1] at h
              exact h
            have HW2 : Hid (({ (Wl.begin_ s1 (Wl.nextOf s1) (Wl.found s1)).1 with down := true } : Dk.S).wait.length < 100000) := b2
            have HRN := Lib.hid (b3 keep)
            clear a1 a2 a3 b1 b2 b3 hup HR
            generalize (Wl.begin_ s1 (Wl.nextOf s1) (Wl.found s1)).1 = T at *
            go_wp2_with (first
              | (go_at_call 26; refine (HFU.out _ HLr.out).mono ?_; rintro e wb ⟨rfl, HLb, HSb⟩)
              | (go_at_call 38; refine (HOP.out _ HLb.out).mono ?_; rintro e wd ⟨rfl, HLd, HSd⟩)
              | (go_at_call 36; refine (cut_live HLd.out).mono ?_; rintro e we ⟨rfl, HLe, HSe⟩)
              | (go_at_call 37; refine (restart_live HLe.out (HGT.out we HLe.out.bl).2.2 HW2.out).mono ?_; rintro e wf ⟨rfl, HLf2, HSf⟩))
            have HSN : Hid (Dk.Same X w8 wf) := (((HSr.out.trans HSb.out).trans HSd.out).trans HSe.out).trans HSf.out
            go_roundw
            case rel => exact ⟨j + 1, _, by omega, by go_num, HLf2, HRN, HSN⟩
            case measure => simp [intOf]; omega
        · have hdec : (decide ((j : Int) < ag) = true ∧ ¬ (j : Int) < 3) ∨ ¬ (j : Int) < ag := by
            by_cases h : (j : Int) < ag
            · exact .inl ⟨decide_eq_true h, by omega⟩
            · exact .inr h
          clear hjj
          obtain ⟨a1, a2, a3, a4⟩ := HR.out.last (by omega)
          have hok := HR.out.ok (by omega)
          have HOP : Hid (∀ wz, Dk.Live w1 X wz p s → Calls Try.prog 38 #[.pointer (some ⟨p, 0, none⟩)] wz fun e w' => Wl.OpenL w1 X wz p (Wl.opened s) e w') := fun wz hz => open_live hz hok hup a1 a2
          have HFZ := Lib.hid (a3.fits (by omega))
          have HRZ := Lib.hid a4
          clear a1 a2 a3 a4 hok hup HR
          generalize Wl.opened s = T at *
          rcases hdec with ⟨hd1, hd2⟩ | hd1
          all_goals
            go_wp2_with (first
              | (go_at_call 38; refine (HOP.out _ HLr.out).mono ?_; rintro e wd ⟨q2, rfl, HLd, HSd⟩)
              | (go_at_call 34; refine (records_live HLd.out HFZ.out).mono ?_; rw [HRZ.out]; rintro e wg ⟨Ag, cg, rfl, HRg, hbg⟩)
              | (go_at_call 22; refine (texts_any _ Ag t.rs cg _ _ HRg.out.prts (by omega) rfl).mono ?_; rintro e wh ⟨Ah, ch, rfl, HRh, hbh⟩; have HSh := Lib.hid ((HSr.out.trans HSd.out).trans (HLd.out.below (hbg.trans (hbh.mono hbg.size))).2); have HLh := Lib.hid (HLd.out.below (hbg.trans (hbh.mono hbg.size))).1)
              | (have hgd := hbi; go_at_call 35; refine (same_any _ Ah A4 t.rs t.rs ch c4 _ _ _ _ (HRh.out.below hbi).txt (HSB.out wi (HSh.out.trans (HLh.out.below hbi).2)).1 (by omega) (by omega) rfl rfl).mono ?_; rw [decide_eq_true rfl]; clear hgd; rintro e wk ⟨rfl, hbk⟩; have HLi := Lib.hid (HLi0.out.below hbk).1)
              | (go_at_call 35; refine (same_any _ Ah A6 t.rs B ch c6 _ _ _ _ HRh.out.txt (HSB.out wh HSh.out).2 (by omega) (by omega) rfl rfl).mono ?_; rw [decide_eq_false HRB.out]; rintro e wi ⟨rfl, hbi⟩; have HLi0 := Lib.hid (HLh.out.below hbi).1))
            go_ret
            exact ⟨rfl, HFN.out _ HLi.out.bl⟩

set_option maxRecDepth 8000 in
theorem lasts_walk (w : World) (y : Int) (hy : (Lit.int .i64 y).wf = true) (A : Option Addr) (zs : List Dk.ActD) (c : Nat) (hI : Dk.Acts w (· < w.heap.size) A zs ∧ zs.length ≤ 9223372036854775807) (x : Dk.ActD) (Ad Ak : Option Addr) (cd ck : Nat) (hX : Dk.ActIn w (· < w.heap.size) x Ad Ak cd ck)
    (cut : Int) (hcu : (Lit.int .i64 cut).wf = true) (K : Option Addr) (keep : List Bool) (kc : Nat) (hK : Dk.Bls w (· < w.heap.size) K keep ∧ keep.length ≤ 9223372036854775807 ∧ keep.length ≤ kc ∧ (K = none → kc = 0)) (ag : Int) (hag : (Lit.int .i64 ag).wf = true) :
    Calls Try.prog 6 #[.int .i64 y, .slice A zs.length c, Wl.av x Ad Ak cd ck, .int .i64 cut, .slice K keep.length kc, .int .i64 ag] w fun e w' => e = .returned (.bool true) ∧ Below w.heap.size w w' := by
  obtain ⟨hI, hm⟩ := hI
  have hyb := bounds_i64 hy
  by_cases hb : y < 4 ∨ 60 < y ∨ 40 < zs.length
  · have HN := Lib.hid (fun w1 => begun_not w1 y A zs.length c hb hm)
    have hways : y < 4 ∨ (¬ y < 4 ∧ 60 < y) ∨ (¬ y < 4 ∧ ¬ 60 < y ∧ (40 : Int) < (zs.length : Int)) := by omega
    clear hI hX hK hb hy hcu hag
    rcases hways with h | ⟨h, h'⟩ | ⟨h, h', h''⟩
    all_goals
      go_enter Try.func6, Try.ntmps6
      go_wp2_with (first
        | (refine Wl.wpList_boxA rfl _ rfl x Ad Ak cd ck rfl ?_; intro wa ha hba hsa; clear ha)
        | (go_at_call 10; refine (awake_any _).mono ?_; rintro e w1 ⟨rfl, hbw⟩)
        | (go_at_call 33; refine (HN.out _).mono ?_; rintro e w2 ⟨rfl, hb2⟩))
      go_ret
      exact ⟨rfl, (hba.trans (hbw.mono hba.size)).trans (hb2.out.mono (Nat.le_trans hba.size hbw.size))⟩
  · obtain ⟨n, rfl⟩ := Int.eq_ofNat_of_zero_le (show 0 ≤ y by omega)
    exact lasts_core n (by omega) (by omega) A zs c x Ad Ak cd ck cut K keep kc ag w hI (by omega) hX.hd hX.dc hX.ld hK.1 (bounds_i64 hag).2 (bounds_i64 hcu).2

set_option maxRecDepth 100000 in
theorem walLasts_lifted (os : Os) (started : os.Started) (H : Type) (enc : TypeId × Value → H) :
    ReturnsInHanded {} Try.checked os 6 .any (Rows.walLastsSpec.pre6 enc Try.prog Try.f6 Rows.walLastsRow.domain false) (Rows.walLastsSpec.post enc Try.prog Try.f6 false true false false) := by
  refine returnsInHanded_of_change (C := Try.checked) own started (by kernel_rfl) Try.func6
    (ChangeSpec.witness6 (enc := enc) (C := Try.checked) false ⟨#[], #[.int .i64 0, .slice none 0 0, .agg #[.int .i64 0, .int .i64 0, .int .i64 0, .int .i64 0, .slice none 0 0, .slice none 0 0, .int .u8 0], .int .i64 0, .slice none 0 0, .int .i64 0], []⟩ 8 (by kernel_rfl) (by kernel_rfl) (by kernel_rfl) (by kernel_rfl)) ?_
  intro W base args ds gs before hval0 hW hcnd _
  have hval : ∀ (j : Nat) t v, Try.f6.params[j]? = some t → args[j]? = some v → Value.okWide Try.prog W .any base t v := hval0
  have hW' := hW
  obtain ⟨p, q, hA0, hV, rfl, hfz, hnd⟩ := hW
  have hA : DataW.TrodAll enc Try.prog W 0 (fun _ => true) true Try.f6.params.toList args.toList ds p := hA0
  rw [Try.params6] at hA hval
  obtain ⟨v0, vs0, d0, ds0, p0, q0, hargs, rfl, rfl, h0, r0⟩ := trodAll_cons hA
  obtain ⟨v1, vs1, d1, ds1, p1, q1, rfl, rfl, rfl, h1, r1⟩ := trodAll_cons r0
  obtain ⟨v2, vs2, d2, ds2, p2, q2, rfl, rfl, rfl, h2, r2⟩ := trodAll_cons r1
  obtain ⟨v3, vs3, d3, ds3, p3, q3, rfl, rfl, rfl, h3, r3⟩ := trodAll_cons r2
  obtain ⟨v4, vs4, d4, ds4, p4, q4, rfl, rfl, rfl, h4, r4⟩ := trodAll_cons r3
  obtain ⟨v5, vs5, d5, ds5, p5, q5, rfl, rfl, rfl, h5, r5⟩ := trodAll_cons r4
  obtain ⟨rfl, rfl, rfl⟩ := trodAll_nil r5
  obtain rfl : args = #[v0, v1, v2, v3, v4, v5] := by cases args; simp_all
  obtain ⟨rfl, rfl⟩ := trodVars_none hV
  obtain ⟨a0, rfl, rfl, rfl, w0⟩ := open_int Try.underlying3 (hval 0 3 v0 rfl rfl) h0
  obtain ⟨a1, len1, cap1, rfl⟩ := okWide_slice Try.underlying25 (hval 1 25 v1 rfl rfl)
  have k1 := h1
  have lt1 : ∀ x ∈ p1, x.block < W.heap.size := by obtain ⟨m, hm⟩ := k1; exact DataW.trod_lt m _ _ _ hm
  obtain ⟨fuel1, hf1⟩ := h1
  obtain ⟨A1, l1, c1, hcs1, b1⟩ := Dk.trod_acts hf1
  simp only [Value.cells, List.cons.injEq, and_true, Value.slice.injEq] at hcs1
  obtain ⟨rfl, rfl, rfl⟩ := hcs1
  have k2 := h2
  have lt2 : ∀ x ∈ p2, x.block < W.heap.size := by obtain ⟨m, hm⟩ := k2; exact DataW.trod_lt m _ _ _ hm
  obtain ⟨x2, xd2, xk2, cd2, ck2, rfl, b2⟩ := Dk.open_act (hval 2 43 v2 rfl rfl) h2
  obtain ⟨a3, rfl, rfl, rfl, w3⟩ := open_int Try.underlying3 (hval 3 3 v3 rfl rfl) h3
  obtain ⟨a4, len4, cap4, rfl⟩ := okWide_slice Try.underlying41 (hval 4 41 v4 rfl rfl)
  have k4 := h4
  have lt4 : ∀ x ∈ p4, x.block < W.heap.size := by obtain ⟨m, hm⟩ := k4; exact DataW.trod_lt m _ _ _ hm
  obtain ⟨fuel4, hf4⟩ := h4
  obtain ⟨A4, l4, c4, hcs4, b4⟩ := Dk.trod_bools hf4
  simp only [Value.cells, List.cons.injEq, and_true, Value.slice.injEq] at hcs4
  obtain ⟨rfl, rfl, rfl⟩ := hcs4
  obtain ⟨a5, rfl, rfl, rfl, w5⟩ := open_int Try.underlying3 (hval 5 3 v5 rfl rfl) h5
  clear hA0 hval0
  refine (lasts_walk W a0 w0 _ l1 _ b1 x2 xd2 xk2 cd2 ck2 b2 a3 w3 _ l4 _ b4 a5 w5).mono fun e W' ⟨he, bel⟩ => ?_
  subst he
  exact ⟨_, rfl, _, _, _, [], _, [], hW', trodAll_mk1 (shut_bool Try.underlying4 _), (trodAll_cons_mk (shut_int Try.underlying3 w0) (trodAll_cons_mk (Below.trod laidOut (by kernel_rfl) (of_decide_eq_true (by kernel_rfl)) k1 bel lt1) (trodAll_cons_mk (Below.trod laidOut (by kernel_rfl) (of_decide_eq_true (by kernel_rfl)) k2 bel lt2) (trodAll_cons_mk (shut_int Try.underlying3 w3) (trodAll_cons_mk (Below.trod laidOut (by kernel_rfl) (of_decide_eq_true (by kernel_rfl)) k4 bel lt4) (trodAll_cons_mk (shut_int Try.underlying3 w5) (trodAll_mk0))))))), rfl, bel.frame _, fun h => by cases h⟩

/-- The statement WalLasts. -/
theorem walLasts_holds : Rows.WalLastsSaid :=
  OpenClaim.holds_of_wide 6 Try.f6 rfl rfl rfl rfl rfl rfl rfl ⟨rfl, rfl, rfl, rfl, rfl⟩ rfl rfl rfl rfl rfl (by kernel_rfl) Try.func6 (by kernel_rfl)
    (of_decide_eq_true (by kernel_rfl)) (by unfold Func.isWrapper; first | (rw [if_pos (by decide +kernel)]; kernel_rfl) | (rw [if_neg (by decide +kernel)]; exact ⟨rfl, rfl⟩))
    (fun os started H enc _ => walLasts_lifted os started H enc)
#print axioms walLasts_holds

end Go.Proofs.Ytogkaoiiddhdbaa
